/- All of a text is read. -/
import Derived.Test.YtfljnhmpelpdaaaDoorTkVerilog
import Derived.Tactics
import Derived.Tactics2
import Derived.Defers
import Derived.Recover
import Derived.Laws.Pointers
namespace Go.Proofs.YtfljnhmpelpdaaaDoor.Tok
set_option maxRecDepth 100000
open Go.RowKit

/-- all that is read from a place on: the tokens; or where no token is -/
def runAll (st : Nat → List Tk → Option (List Tk × Nat)) (n : Nat) : Nat → List Tk → Nat → List Tk ⊕ Nat
  | 0, l, _ => .inl l
  | f + 1, l, a => if a < n then (match st a l with | none => .inr a | some (l', b) => runAll st n f l' b) else .inl l

theorem row_slice {W : World} {B : Nat} {e : TypeId} {z : Nat} {v : Value} {n : Nat} {xs : List Value} (h : W.ownsRow B e z v n xs) : ∃ o c, v = .slice o n c := by
  rcases h.2 with ⟨rfl, rfl⟩ | ⟨g, cap, cur, rfl, _⟩
  · exact ⟨_, _, rfl⟩
  · exact ⟨_, _, rfl⟩
theorem row_kept {W : World} {B : Nat} {e : TypeId} {z : Nat} {v : Value} {n : Nat} {xs : List Value} (h : W.ownsRow B e z v n xs) (k : Nat) (hk : k < B) (u : Value) : (W.setCell ⟨k, 0, none⟩ u).ownsRow B e z v n xs :=
  h.kept (grownBy_setCell' W k u) (.inr (fun e' => by have := (h.lt k (by first | exact e' | exact e'.symm)).1; omega))
theorem catch_idle (p q r : Addr) (w : World) :
    CallsD Tryd.prog 55 #[.pointer (some p), .pointer (some q), .pointer (some r)] .returning w fun e u' w' => e = .returned (.tuple #[]) ∧ u' = .returning ∧ w' = w := by
  refine callsD_of_wpS Tryd.func55 rfl fun c₀ cs hu => ?_
  apply wpS_seq
  apply wpS_region
  simp [wpOpsS, go_sem, recoverD, hu, Tryd.ntmps55, Exit.thenS]
  apply wpS_seq
  apply wpS_region
  simp [wpOpsS, go_sem, Exit.thenS]
  refine wpS_cond (t := false) (by simp [Act.eval, Array.replicate]) ?_
  simp only [Bool.false_eq_true, if_false]
  refine wpS_of_wp (wp_skip ?_)
  cases c₀
  simp_all [bodyPostS, results, Tryd.results55]

theorem assert_wrong (a : Int) (wx : World) : (Instr.typeAssert (.iface 84 (.agg #[.int .i64 a])) 20 84 false).run Tryd.prog wx = .ok (.agg #[.int .i64 a]) wx := by
  simp [Instr.typeAssert, run_underlying Tryd.underlying84, go_sem, Result.andThen]
theorem field_wrong (a : Int) (wx : World) : (Instr.field 84 (.agg #[.int .i64 a]) 0).run Tryd.prog wx = .ok (.int .i64 a) wx := by
  simp [Instr.field, run_underlying Tryd.underlying84, go_sem, Result.andThen]
  rfl
theorem catch_panic (B : Nat) (v : Value) (a : Int) (w : World) (b1 : Blk w B #[v] 36) (b2 : Blk w (B + 1) #[.int .i64 0] 3) (b3 : Blk w (B + 1 + 1) #[.int .i64 0] 26) :
    CallsD Tryd.prog 55 #[.pointer (some ⟨B, 0, none⟩), .pointer (some ⟨B + 1, 0, none⟩), .pointer (some ⟨B + 1 + 1, 0, none⟩)] (.panicking [{ v := .iface 84 (.agg #[.int .i64 a]), recovered := false }]) w fun e u' w' =>
      e = .returned (.tuple #[]) ∧ u' = .panicking [{ v := .iface 84 (.agg #[.int .i64 a]), recovered := true }] ∧
        Blk w' B #[.slice none 0 0] 36 ∧ Blk w' (B + 1) #[.int .i64 a] 3 ∧ Blk w' (B + 1 + 1) #[.int .i64 2] 26 ∧ Below B w w' := by
  refine callsD_of_wpS Tryd.func55 rfl fun c₀ cs hu => ?_
  apply wpS_seq
  apply wpS_region
  simp [wpOpsS, go_sem, recoverD, hu, Tryd.ntmps55, Exit.thenS]
  apply wpS_seq
  apply wpS_region
  simp [wpOpsS, go_sem, Exit.thenS]
  refine wpS_cond (t := true) (by simp [Act.eval, Array.replicate]) ?_
  simp only [if_true]
  refine wpS_of_wp ?_
  have c1 := b1.cell 0
  have c2 := b2.cell 0
  have c3 := b3.cell 0
  have f1 := b1.frozen 0
  have f2 := b2.frozen 0
  have f3 := b3.frozen 0
  simp at c1 c2 c3
  have has := assert_wrong a
  have hfw := field_wrong a
  simp only [Array.replicate_succ, Array.replicate_zero, List.push_toArray, List.append_toArray, List.nil_append, List.cons_append, List.setIfInBounds_toArray, List.set_cons_zero, List.set_cons_succ]
  go_region
  have q1 := ((b1.set 0 (.slice none 0 0)).other (B' := B + 1) (by omega) 0 (.int .i64 a)).other (B' := B + 1 + 1) (by omega) 0 (.int .i64 2)
  have q2 := ((b2.other (B' := B) (by omega) 0 (.slice none 0 0)).set 0 (.int .i64 a)).other (B' := B + 1 + 1) (by omega) 0 (.int .i64 2)
  have q3 := ((b3.other (B' := B) (by omega) 0 (.slice none 0 0)).other (B' := B + 1) (by omega) 0 (.int .i64 a)).set 0 (.int .i64 2)
  have hb := (((Below.refl B w).setCell (p := ⟨B, 0, none⟩) (Nat.le_refl _) (.slice none 0 0)).setCell (p := ⟨B + 1, 0, none⟩) (by simp) (.int .i64 a)).setCell (p := ⟨B + 1 + 1, 0, none⟩) (by simp; omega) (.int .i64 2)
  simp [bodyPostS, results, Tryd.results55]
  exact ⟨q1, q2, q3, hb.trans ⟨rfl, rfl, rfl, Nat.le_refl _, fun _ _ => rfl⟩⟩
theorem index_zero (l t : List UInt8) (h : Lib.index l t = 0) (hl : l ≠ []) : t.isPrefixOf l = true := by
  cases l with
  | nil => exact absurd rfl hl
  | cons b l =>
    unfold Lib.index at h
    split at h
    · assumption
    · split at h
      · omega
      · have := Lib.index_ge l t
        rename_i h1 h2
        simp at h2
        omega
theorem upP_gt (s : ByteArray) (a : Nat) (c : UInt8) (h : a < s.size) (hc : atB s a ≠ (c.toNat : Int)) : a < upP s a ⟨#[c]⟩ := by
  unfold upP
  split
  · rename_i h0
    by_cases hz : Lib.index (s.data.toList.drop a) (⟨#[c]⟩ : ByteArray).data.toList = 0
    · exfalso
      have hd : s.data.toList.drop a = s[a] :: s.data.toList.drop (a + 1) := by rw [List.drop_eq_getElem_cons (by simpa using h)]; rfl
      have := index_zero _ _ hz (by rw [hd]; simp)
      rw [hd] at this
      have hcc : c = s[a] := by simpa [List.isPrefixOf] using this
      obtain ⟨x, hx, _⟩ := atB_byte s a h
      apply hc
      unfold atB
      rw [List.getElem?_eq_getElem (by simpa using h), hcc]
      rfl
    · omega
  · exact h
theorem skip_gt (p : UInt8 → Bool) (s : ByteArray) (a : Nat) (h : a < s.size) (hp : p (UInt8.ofNat (atB s a).toNat) = true) : a < skip p s a := by
  have hd : s.data.toList.drop a = s[a] :: s.data.toList.drop (a + 1) := by rw [List.drop_eq_getElem_cons (by simpa using h)]; rfl
  have hc : UInt8.ofNat (atB s a).toNat = s[a] := by
    unfold atB
    rw [List.getElem?_eq_getElem (by simpa using h)]
    have : s.data.toList[a]'(by simpa using h) = s[a] := rfl
    rw [this]; simp
  rw [hc] at hp
  unfold skip
  rw [hd, List.takeWhile_cons, if_pos hp, List.length_cons]
  omega
theorem endL_len (l : List Tk) (a : Nat) : (endL l a).length ≤ l.length + 1 := by
  unfold endL
  split
  · omega
  · split
    · omega
    · simp
theorem stepB_go (s : ByteArray) (a : Nat) (l : List Tk) (h : a < s.size) : a < (stepB s a l).2 ∧ (stepB s a l).2 ≤ s.size ∧ (stepB s a l).1.length ≤ l.length + 1 := by
  unfold stepB
  split
  · exact ⟨by simp, h, endL_len l a⟩
  · split
    · rename_i h1 h2
      exact ⟨upP_gt s a 10 h (by rw [h2]; decide), upP_le s a _ (by omega), by simp⟩
    · split
      · rename_i h3
        have := prefix2 s a _ _ h3
        exact ⟨by simp, this, by simp⟩
      · split
        · exact ⟨by simp, h, by simp⟩
        · split
          · rename_i h5
            exact ⟨skip_gt wB s a h h5, skip_le wB s a (by omega), by simp⟩
          · exact ⟨by simp, h, by simp⟩

set_option maxRecDepth 100000 in
set_option maxHeartbeats 1000000 in
theorem readAllB_any (k : Value) (s : ByteArray) (w : World) (hX : HX w) (hK : Kd w k wB) (hs : s.size ≤ 100000) :
    Calls Tryd.prog 34 #[.iface 66 (.agg #[k]), .string s] w fun e w' => ∃ v l, e = .returned (.tuple #[v, .int .i64 0, .int .i64 0]) ∧ runAll (fun a l => some (stepB s a l)) s.size s.size [] 0 = .inl l ∧
      w'.ownsRow (w.heap.size + 3) 23 3 v l.length (cs l) ∧ Below w.heap.size w w' := by
  have hmf : ∀ (fn : Fn) (first cap : Array Value) (w : World), (Instr.makeFunc fn first cap).run Tryd.prog w = .ok (.func fn first cap) w := fun _ _ _ _ => rfl
  have HXX := Lib.hid hX
  have HKK := Lib.hid hK
  clear hX hK
  generalize hT : runAll (fun a l => some (stepB s a l)) s.size s.size [] 0 = T
  have HT := Lib.hid hT
  clear hT
  go_enter_defers Tryd.func34, Tryd.ntmps34
  go_wp2
  have k1 := ((Blk.new w #[.slice none 0 0] 36).alloc (.cells #[.int .i64 0] 3)).alloc (.cells #[.int .i64 0] 26)
  have k2 := (Blk.new (w.alloc (.cells #[.slice none 0 0] 36)) #[.int .i64 0] 3).alloc (.cells #[.int .i64 0] 26)
  have k3 := Blk.new ((w.alloc (.cells #[.slice none 0 0] 36)).alloc (.cells #[.int .i64 0] 3)) #[.int .i64 0] 26
  have hB0 : Below w.heap.size w (((w.alloc (.cells #[.slice none 0 0] 36)).alloc (.cells #[.int .i64 0] 3)).alloc (.cells #[.int .i64 0] 26)) :=
    (((Below.refl _ w).alloc (Nat.le_refl _) _).alloc (by simp) _).alloc (by simp; omega) _
  have hsz : w.heap.size + 3 ≤ (((w.alloc (.cells #[.slice none 0 0] 36)).alloc (.cells #[.int .i64 0] 3)).alloc (.cells #[.int .i64 0] 26)).heap.size := by simp
  simp only [World.size_alloc] at k2 k3
  generalize ((w.alloc (.cells #[.slice none 0 0] 36)).alloc (.cells #[.int .i64 0] 3)).alloc (.cells #[.int .i64 0] 26) = W0 at k1 k2 k3 hB0 hsz
  go_loopw [7] (fun i wr => ∃ (a f : Nat) (l : List Tk) (v : Value), i = .int .i64 (a : Int) ∧ a ≤ s.size ∧ s.size ≤ a + f ∧ l.length ≤ a ∧ Blk wr w.heap.size #[v] 36 ∧ Blk wr (w.heap.size + 1) #[.int .i64 0] 3 ∧ Blk wr (w.heap.size + 1 + 1) #[.int .i64 0] 26 ∧
    wr.ownsRow (w.heap.size + 3) 23 3 v l.length (cs l) ∧ Below w.heap.size w wr ∧ w.heap.size + 3 ≤ wr.heap.size ∧ Hid (runAll (fun a l => some (stepB s a l)) s.size f l a = T)) (fun i _ => s.size - (intOf i).toNat)
  case atStart => exact ⟨0, s.size, [], _, rfl, by omega, by omega, by simp, k1, k2, k3, World.ownsRow_nil _ _ _ _, hB0, hsz, HT⟩
  case round =>
    obtain ⟨a, f, l, v, rfl, ha, haf, hla, b1, b2, b3, hrow, hB, hsz', hrun⟩ := hrel
    have c1 := b1.cell 0
    have c2 := b2.cell 0
    have c3 := b3.cell 0
    have f1 := b1.frozen 0
    have f2 := b2.frozen 0
    have f3 := b3.frozen 0
    simp at c1 c2 c3
    clear k1 k2 k3 hB0 hsz
    by_cases hlt : a < s.size
    · have hlt' : (a : Int) < (s.size : Int) := by omega
      have hgo := stepB_go s a l hlt
      obtain ⟨f, rfl⟩ : ∃ f', f = f' + 1 := ⟨f - 1, by omega⟩
      have hrun2 := hrun.out
      rw [runAll, if_pos hlt] at hrun2
      have HRUN := Lib.hid hrun2
      have HR := Lib.hid (readB_any k s a l v wr (w.heap.size + 3) hsz' (HXX.out.below hB) (HKK.out.below hB) (by omega) hrow hs hlt)
      obtain ⟨l', hl'⟩ : ∃ l', (stepB s a l).1 = l' := ⟨_, rfl⟩
      obtain ⟨b, hb'⟩ : ∃ b, (stepB s a l).2 = b := ⟨_, rfl⟩
      rw [hl', hb'] at hgo HR
      clear hrun hrun2
      go_wp2_with fail
      refine HR.out.mono ?_
      rintro e w' ⟨v', rfl, hrow', hbel⟩
      have b1' := b1.below hbel (by omega)
      have b2' := b2.below hbel (by omega)
      have b3' := b3.below hbel (by omega)
      have c1' := b1'.cell 0
      have f1' := b1'.frozen 0
      simp at c1'
      obtain ⟨so, sc, rfl⟩ := row_slice hrow'
      have HR2 := Lib.hid (row_kept hrow' w.heap.size (by omega) (.slice so l'.length sc))
      have K1 := Lib.hid (b1'.set 0 (.slice so l'.length sc))
      have K2 := Lib.hid (b2'.other (B' := w.heap.size) (by omega) 0 (.slice so l'.length sc))
      have K3 := Lib.hid (b3'.other (B' := w.heap.size) (by omega) 0 (.slice so l'.length sc))
      have HBB := Lib.hid ((hB.trans (hbel.mono (by omega))).setCell (p := ⟨w.heap.size, 0, none⟩) (Nat.le_refl _) (.slice so l'.length sc))
      have hs3 : w.heap.size + 3 ≤ (w'.setCell ⟨w.heap.size, 0, none⟩ (.slice so l'.length sc)).heap.size := by
        have := hbel.size
        simp; omega
      have HS3 := Lib.hid hs3
      rw [hl', hb'] at HRUN
      clear c1 c2 c3 f1 f2 f3 b1 b2 b3 b1' b2' b3' hrow hrow' hB hbel hs3
      go_wp2
      refine ⟨⟨b, f, l', _, rfl, hgo.2.1, by omega, by omega, K1.out, K2.out, K3.out, HR2.out, HBB.out, HS3.out, HRUN⟩, ?_⟩
      simp [intOf]; omega
    · have hge : (s.size : Int) ≤ (a : Int) := by omega
      obtain ⟨so, sc, rfl⟩ := row_slice hrow
      have hrun2 : runAll (fun a l => some (stepB s a l)) s.size f l a = .inl l := by
        cases f with
        | zero => rfl
        | succ f => rw [runAll, if_neg hlt]
      have HTT := Lib.hid (hrun.out.symm.trans hrun2)
      have HR2 := Lib.hid hrow
      have HBB := Lib.hid hB
      clear hrun hrun2 hrow hB
      have q1 := ((b1.set 0 (.slice so l.length sc)).other (B' := w.heap.size + 1) (by omega) 0 (.int .i64 0)).other (B' := w.heap.size + 1 + 1) (by omega) 0 (.int .i64 0)
      have q2 := ((b2.other (B' := w.heap.size) (by omega) 0 (.slice so l.length sc)).set 0 (.int .i64 0)).other (B' := w.heap.size + 1 + 1) (by omega) 0 (.int .i64 0)
      have q3 := ((b3.other (B' := w.heap.size) (by omega) 0 (.slice so l.length sc)).other (B' := w.heap.size + 1) (by omega) 0 (.int .i64 0)).set 0 (.int .i64 0)
      have HR3 := Lib.hid (row_kept (row_kept (row_kept HR2.out w.heap.size (by omega) (.slice so l.length sc)) (w.heap.size + 1) (by omega) (.int .i64 0)) (w.heap.size + 1 + 1) (by omega) (.int .i64 0))
      have HB3 := Lib.hid (((HBB.out.setCell (p := ⟨w.heap.size, 0, none⟩) (Nat.le_refl _) (.slice so l.length sc)).setCell (p := ⟨w.heap.size + 1, 0, none⟩) (by simp) (.int .i64 0)).setCell (p := ⟨w.heap.size + 1 + 1, 0, none⟩) (by simp; omega) (.int .i64 0))
      have Q1 := Lib.hid q1
      have Q2 := Lib.hid q2
      have Q3 := Lib.hid q3
      clear q1 q2 q3
      go_wp2
      generalize ((wr.setCell ⟨w.heap.size, 0, none⟩ (.slice so l.length sc)).setCell ⟨w.heap.size + 1, 0, none⟩ (.int .i64 0)).setCell ⟨w.heap.size + 1 + 1, 0, none⟩ (.int .i64 0) = WX at Q1 Q2 Q3 HR3 HB3
      have d1 := Q1.out.cell 0
      have d2 := Q2.out.cell 0
      have d3 := Q3.out.cell 0
      simp at d1 d2 d3
      refine leaves_cons (f := 55) (args := #[.pointer (some ⟨w.heap.size, 0, none⟩), .pointer (some ⟨w.heap.size + 1, 0, none⟩), .pointer (some ⟨w.heap.size + 1 + 1, 0, none⟩)]) (by simp) (by simp [go_sem]) ?_
      refine (catch_idle _ _ _ _).mono ?_
      rintro e u' w'' ⟨rfl, rfl, rfl⟩
      simp [Leaves, settle, results, Tryd.results34, go_sem, d1, d2, d3]
      exact ⟨l, HTT.out, HR3.out, HB3.out⟩
end Go.Proofs.YtfljnhmpelpdaaaDoor.Tok
