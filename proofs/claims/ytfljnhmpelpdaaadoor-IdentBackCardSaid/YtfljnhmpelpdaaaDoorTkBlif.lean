/- Blif: what is read at a place. -/
import Derived.Test.YtfljnhmpelpdaaaDoorTkLists
import Derived.BigQuiet
namespace Go.Proofs.YtfljnhmpelpdaaaDoor.Tok
set_option maxRecDepth 100000
open Go.RowKit

/-- a byte of a word of BLIF -/
def wB (c : UInt8) : Bool := !isOf ⟨#[9, 13, 32, 10, 35, 92]⟩ c
/-- the byte at a place -/
def atB (s : ByteArray) (a : Nat) : Int := (s.data.toList[a]?.map fun c => (c.toNat : Int)).getD 0
theorem atB_run (s : ByteArray) (a : Nat) (h : a < s.size) (c : Int) (hc : atB s a = c) : ∀ wx : World, (Instr.index 9 (.string s) (.int .i64 (a : Int))).run Tryd.prog wx = .ok (.int .u8 c) wx := fun wx => by
  rw [run_index_string wx 9 s .i64 (a : Int) Tryd.underlying9]
  unfold atB at hc
  rw [List.getElem?_eq_getElem (by simpa using h)] at hc
  have : s.data.toList[a]'(by simpa using h) = s[a] := rfl
  rw [this] at hc
  simp [h]
  simpa using hc

def stepB (s : ByteArray) (a : Nat) (l : List Tk) : List Tk × Nat :=
  if atB s a = 10 then (endL l a, a + 1)
  else if atB s a = 35 then (l, upP s a ⟨#[10]⟩)
  else if Lib.hasPrefix (s.data.toList.drop a) [92, 10] then (l, a + 2)
  else if atB s a = 92 then (l ++ [⟨0, s.extract a (a + 1), a⟩], a + 1)
  else if wB (UInt8.ofNat (atB s a).toNat) then (l ++ [⟨0, s.extract a (skip wB s a), a⟩], skip wB s a)
  else (l, a + 1)

/-- what a reader tells: the tokens, in a row of the call's own, and the place behind -/
def Told (B : Nat) (w : World) (l : List Tk) (a : Nat) (e : Ending) (w' : World) : Prop :=
  ∃ v', e = .returned (.tuple #[v', .int .i64 (a : Int)]) ∧ w'.ownsRow B 23 3 v' l.length (cs l) ∧ Below B w w'

theorem skip_ge (p : UInt8 → Bool) (s : ByteArray) (a : Nat) : a ≤ skip p s a := by unfold skip; omega
theorem skip_le (p : UInt8 → Bool) (s : ByteArray) (a : Nat) (h : a ≤ s.size) : skip p s a ≤ s.size := by
  unfold skip
  have h1 := (List.takeWhile_prefix p (l := s.data.toList.drop a)).length_le
  have h2 : (s.data.toList.drop a).length = s.size - a := by simp
  omega
theorem slice_eq (s : ByteArray) (a b : Nat) (h1 : a ≤ b) (h2 : b ≤ s.size) (wx : World) :
    (Instr.slice 9 (.string s) (some (.int .i64 (a : Int))) (some (.int .i64 (b : Int))) none).run Tryd.prog wx = .ok (.string (s.extract a b)) wx := by
  have := run_slice_string (P := Tryd.prog) wx 9 s .i64 .i64 (a : Int) (b : Int) Tryd.underlying9 (by omega) (by omega) (by omega)
  rw [this]
  congr

set_option maxHeartbeats 1000000 in
theorem readB_end (k : Value) (s : ByteArray) (a : Nat) (l : List Tk) (v : Value) (w : World) (B : Nat) (hB : B ≤ w.heap.size) (hl : l.length ≤ 100000) (hr : w.ownsRow B 23 3 v l.length (cs l))
    (hs : s.size ≤ 100000) (ha : a < s.size) (h : atB s a = 10) :
    Calls Tryd.prog 114 #[.agg #[k], .string s, .int .i64 (a : Int), v] w (Told B w (endL l a) (a + 1)) := by
  have hix := atB_run s a ha _ h
  have ha' : (a : Int) ≤ 100000 := by omega
  have HR := Lib.hid hr
  clear hr
  go_enter Tryd.func114, Tryd.ntmps114
  go_wp2_with fail
  refine (end_any l v a _ B (by simp; omega) hl (HR.out.alloc _)).mono ?_
  rintro e w' ⟨v', rfl, hr', hb⟩
  have HR' := Lib.hid hr'
  have HB := Lib.hid hb
  clear hr' hb
  go_wp2
  go_ret2
  exact ⟨_, by push_cast; rfl, HR'.out, ((Below.refl B w).alloc hB _).trans HB.out⟩

set_option maxHeartbeats 1000000 in
theorem readB_line (k : Value) (s : ByteArray) (a : Nat) (l : List Tk) (v : Value) (w : World) (B : Nat) (hB : B ≤ w.heap.size) (hX : HX w) (hr : w.ownsRow B 23 3 v l.length (cs l))
    (hs : s.size ≤ 100000) (ha : a < s.size) (h : atB s a = 35) :
    Calls Tryd.prog 114 #[.agg #[k], .string s, .int .i64 (a : Int), v] w (Told B w l (upP s a ⟨#[10]⟩)) := by
  have hix := atB_run s a ha _ h
  have ha' : (a : Int) ≤ 100000 := by omega
  have HR := Lib.hid hr
  have HXX := Lib.hid hX
  clear hr hX
  go_enter Tryd.func114, Tryd.ntmps114
  go_wp2_with fail
  refine (upTo_any s a ⟨#[10]⟩ _ (by omega) (by omega) (HXX.out.below ((Below.refl _ w).alloc (Nat.le_refl _) _))).mono ?_
  rintro e w' ⟨rfl, rfl⟩
  go_wp2
  go_ret2
  exact ⟨_, rfl, HR.out.alloc _, (Below.refl B w).alloc hB _⟩

set_option maxHeartbeats 1000000 in
theorem readB_word (k : Value) (s : ByteArray) (a : Nat) (l : List Tk) (v : Value) (w : World) (B : Nat) (hB : B ≤ w.heap.size) (hK : Kd w k wB) (hl : l.length ≤ 100000) (hr : w.ownsRow B 23 3 v l.length (cs l))
    (hs : s.size ≤ 100000) (ha : a < s.size) (c : UInt8) (hc : atB s a = (c.toNat : Int)) (h1 : ((c.toNat : Int) == 10) = false) (h2 : ((c.toNat : Int) == 35) = false) (h3 : ((c.toNat : Int) == 92) = false) (h4 : Lib.hasPrefix (s.data.toList.drop a) [92, 10] = false) (h5 : wB c = true) :
    Calls Tryd.prog 114 #[.agg #[k], .string s, .int .i64 (a : Int), v] w (Told B w (l ++ [⟨0, s.extract a (skip wB s a), a⟩]) (skip wB s a)) := by
  obtain ⟨i0, hi, hz0, hz1, hz2⟩ := info_parts info42
  have hix := atB_run s a ha _ hc
  have ha' : (a : Int) ≤ 100000 := by omega
  have hai : (a : Int) ≤ (s.size : Int) := by omega
  have HR := Lib.hid hr
  have hpre := Tryd.strings_HasPrefix (s.extract a s.size) ⟨#[92, 10]⟩
  rw [ext1, show (⟨#[92, 10]⟩ : ByteArray).data.toList = [92, 10] from rfl, h4] at hpre
  have HPRE := Lib.hid hpre
  have hKK := hK
  obtain ⟨g, lb, rfl, eg, hcl⟩ := hK
  have hcl2 := fun W hb => hcl W hb c
  rw [h5] at hcl2
  have HC := Lib.hid hcl2
  have HKK := Lib.hid hKK
  clear hr hpre hcl hcl2 hKK hc
  go_enter Tryd.func114, Tryd.ntmps114
  go_wp2_with fail
  refine (HPRE.out _).mono ?_
  rintro e w' ⟨rfl, rfl⟩
  have hb1 : Below w.heap.size w (w.alloc (.cells #[.func (.func g) #[] lb] 66)) := (Below.refl _ w).alloc (Nat.le_refl _) _
  have HB1 := Lib.hid hb1
  clear hb1
  go_wp2_with fail
  go_quiet (exact Calls.quiet_of_same ((HC.out _ (below_drewN HB1.out _)).mono fun e w' h => ⟨h.1, h.2.symm⟩))
  have hk1 : Blk ((w.alloc (.cells #[.func (.func g) #[] lb] 66)).drewN nq) w.heap.size #[.func (.func g) #[] lb] 66 := Blk.new w _ _
  have hr1 : ((w.alloc (.cells #[.func (.func g) #[] lb] 66)).drewN nq).ownsRow B 23 3 v l.length (cs l) := HR.out.alloc _
  have hb1 : Below w.heap.size w ((w.alloc (.cells #[.func (.func g) #[] lb] 66)).drewN nq) := below_drewN HB1.out _
  generalize (w.alloc (.cells #[.func (.func g) #[] lb] 66)).drewN nq = W1 at hk1 hr1 hb1
  have hkd1 := HKK.out.below hb1
  have hc1 := hk1.cell 0
  simp at hc1
  have hsk1 := skip_ge wB s a
  have hsk2 := skip_le wB s a (by omega)
  have hsl := slice_eq s a (skip wB s a) hsk1 hsk2
  have hBW : B ≤ W1.heap.size := Nat.le_trans hB hb1.size
  have HKD := Lib.hid hkd1
  have HB := Lib.hid hb1
  obtain ⟨to, hto⟩ : ∃ to, skip wB s a = to := ⟨_, rfl⟩
  rw [hto] at hsk1 hsk2 hsl
  have HTO := Lib.hid hto
  clear hk1 hkd1 hb1 HB1 HC HPRE HKK HR hto
  go_wp2_with fail
  refine (behind_any _ wB s a W1 (by omega) (by omega) HKD.out).mono ?_
  rintro e w' ⟨rfl, rfl⟩
  rw [HTO.out]
  go_wp2_with (at_builtin; refine wpList_append_own _ rfl _ _ 36 rfl B 23 i0 (.agg #[.int .i64 0, .string ⟨#[]⟩, .int .i64 0]) 3 32 Tryd.underlying36 hi hz0 hz1 hz2 rfl (by decide) _ _ _ rfl (hr1.alloc _) ⟨W1.heap.size, 0, none⟩ 1 1 [.int .i64 0, .string (s.extract a to), .int .i64 (a : Int)] rfl rfl (cell_three_new _ _ _ _ _) (fun x hx => by simp at hx; rcases hx with rfl | rfl | rfl <;> rfl) (by unfold maxLen; omega) (by omega) (by simp; omega) ?_; intro v' w1 hown' hgrow _)
  go_ret2
  rw [HTO.out]
  refine ⟨v', rfl, ?_, Below.grown ((HB.out.mono hB).alloc hBW _) hgrow (by simp; omega) (fun j hj => (hr1.lt j hj).1)⟩
  rw [cs_append, List.length_append]
  exact hown'

theorem slice_one (s : ByteArray) (a : Nat) (h2 : a < s.size) (wx : World) :
    (Instr.slice 9 (.string s) (some (.int .i64 (a : Int))) (some (.int .i64 ((a : Int) + 1))) none).run Tryd.prog wx = .ok (.string (s.extract a (a + 1))) wx :=
  slice_eq s a (a + 1) (by omega) (by omega) wx

set_option maxHeartbeats 1000000 in
theorem readB_cont (k : Value) (s : ByteArray) (a : Nat) (l : List Tk) (v : Value) (w : World) (B : Nat) (hB : B ≤ w.heap.size) (hr : w.ownsRow B 23 3 v l.length (cs l))
    (hs : s.size ≤ 100000) (ha : a < s.size) (c : Int) (hc : atB s a = c) (h1 : (c == 10) = false) (h2 : (c == 35) = false) (h4 : Lib.hasPrefix (s.data.toList.drop a) [92, 10] = true) :
    Calls Tryd.prog 114 #[.agg #[k], .string s, .int .i64 (a : Int), v] w (Told B w l (a + 2)) := by
  have hix := atB_run s a ha _ hc
  have ha' : (a : Int) ≤ 100000 := by omega
  have hai : (a : Int) ≤ (s.size : Int) := by omega
  have HR := Lib.hid hr
  have hpre := Tryd.strings_HasPrefix (s.extract a s.size) ⟨#[92, 10]⟩
  rw [ext1, show (⟨#[92, 10]⟩ : ByteArray).data.toList = [92, 10] from rfl, h4] at hpre
  have HPRE := Lib.hid hpre
  clear hr hpre hc
  go_enter Tryd.func114, Tryd.ntmps114
  go_wp2_with fail
  refine (HPRE.out _).mono ?_
  rintro e w' ⟨rfl, rfl⟩
  go_wp2
  go_ret2
  exact ⟨_, by push_cast; rfl, HR.out.alloc _, (Below.refl B w).alloc hB _⟩

set_option maxHeartbeats 1000000 in
theorem readB_mark (k : Value) (s : ByteArray) (a : Nat) (l : List Tk) (v : Value) (w : World) (B : Nat) (hB : B ≤ w.heap.size) (hl : l.length ≤ 100000) (hr : w.ownsRow B 23 3 v l.length (cs l))
    (hs : s.size ≤ 100000) (ha : a < s.size) (hc : atB s a = 92) (h4 : Lib.hasPrefix (s.data.toList.drop a) [92, 10] = false) :
    Calls Tryd.prog 114 #[.agg #[k], .string s, .int .i64 (a : Int), v] w (Told B w (l ++ [⟨0, s.extract a (a + 1), a⟩]) (a + 1)) := by
  obtain ⟨i0, hi, hz0, hz1, hz2⟩ := info_parts info42
  have hix := atB_run s a ha _ hc
  have ha' : (a : Int) ≤ 100000 := by omega
  have hai : (a : Int) ≤ (s.size : Int) := by omega
  have hsl := slice_one s a ha
  have hpre := Tryd.strings_HasPrefix (s.extract a s.size) ⟨#[92, 10]⟩
  rw [ext1, show (⟨#[92, 10]⟩ : ByteArray).data.toList = [92, 10] from rfl, h4] at hpre
  have HPRE := Lib.hid hpre
  clear hpre hc
  have hr1 := hr.alloc (.cells #[k] 66)
  have hBW : B ≤ (w.alloc (.cells #[k] 66)).heap.size := by simp; omega
  have HB := Lib.hid ((Below.refl B w).alloc hB (.cells #[k] 66))
  go_enter Tryd.func114, Tryd.ntmps114
  go_wp2_with fail
  refine (HPRE.out _).mono ?_
  rintro e w' ⟨rfl, rfl⟩
  generalize w.alloc (.cells #[k] 66) = W1 at hr1 hBW HB
  go_wp2_with (at_builtin; refine wpList_append_own _ rfl _ _ 36 rfl B 23 i0 (.agg #[.int .i64 0, .string ⟨#[]⟩, .int .i64 0]) 3 32 Tryd.underlying36 hi hz0 hz1 hz2 rfl (by decide) _ _ _ rfl (hr1.alloc _) ⟨W1.heap.size, 0, none⟩ 1 1 [.int .i64 0, .string (s.extract a (a + 1)), .int .i64 (a : Int)] rfl rfl (cell_three_new _ _ _ _ _) (fun x hx => by simp at hx; rcases hx with rfl | rfl | rfl <;> rfl) (by unfold maxLen; omega) (by omega) (by simp; omega) ?_; intro v' w1 hown' hgrow _)
  go_ret2
  refine ⟨v', by push_cast; rfl, ?_, Below.grown (HB.out.alloc hBW _) hgrow (by simp; omega) (fun j hj => (hr1.lt j hj).1)⟩
  rw [cs_append, List.length_append]
  exact hown'

set_option maxHeartbeats 1000000 in
theorem readB_blank (k : Value) (s : ByteArray) (a : Nat) (l : List Tk) (v : Value) (w : World) (B : Nat) (hB : B ≤ w.heap.size) (hK : Kd w k wB) (hr : w.ownsRow B 23 3 v l.length (cs l))
    (hs : s.size ≤ 100000) (ha : a < s.size) (c : UInt8) (hc : atB s a = (c.toNat : Int)) (h1 : ((c.toNat : Int) == 10) = false) (h2 : ((c.toNat : Int) == 35) = false) (h3 : ((c.toNat : Int) == 92) = false) (h4 : Lib.hasPrefix (s.data.toList.drop a) [92, 10] = false) (h5 : wB c = false) :
    Calls Tryd.prog 114 #[.agg #[k], .string s, .int .i64 (a : Int), v] w (Told B w l (a + 1)) := by
  have hix := atB_run s a ha _ hc
  have ha' : (a : Int) ≤ 100000 := by omega
  have hai : (a : Int) ≤ (s.size : Int) := by omega
  have HR := Lib.hid hr
  have hpre := Tryd.strings_HasPrefix (s.extract a s.size) ⟨#[92, 10]⟩
  rw [ext1, show (⟨#[92, 10]⟩ : ByteArray).data.toList = [92, 10] from rfl, h4] at hpre
  have HPRE := Lib.hid hpre
  obtain ⟨g, lb, rfl, eg, hcl⟩ := hK
  have hcl2 := fun W hb => hcl W hb c
  rw [h5] at hcl2
  have HC := Lib.hid hcl2
  clear hr hpre hcl hcl2 hc
  go_enter Tryd.func114, Tryd.ntmps114
  go_wp2_with fail
  refine (HPRE.out _).mono ?_
  rintro e w' ⟨rfl, rfl⟩
  have hb1 : Below w.heap.size w (w.alloc (.cells #[.func (.func g) #[] lb] 66)) := (Below.refl _ w).alloc (Nat.le_refl _) _
  have HB1 := Lib.hid hb1
  clear hb1
  go_wp2_with fail
  go_quiet (exact Calls.quiet_of_same ((HC.out _ (below_drewN HB1.out _)).mono fun e w' h => ⟨h.1, h.2.symm⟩))
  go_wp2
  go_ret2
  exact ⟨_, by push_cast; rfl, HR.out.alloc _, below_drewN (HB1.out.mono hB) _⟩

theorem atB_byte (s : ByteArray) (a : Nat) (h : a < s.size) : ∃ c : UInt8, atB s a = (c.toNat : Int) ∧ UInt8.ofNat (atB s a).toNat = c := by
  refine ⟨s[a], ?_, ?_⟩
  all_goals
    unfold atB
    rw [List.getElem?_eq_getElem (by simpa using h)]
    have : s.data.toList[a]'(by simpa using h) = s[a] := rfl
    rw [this]
    simp

theorem readB_any (k : Value) (s : ByteArray) (a : Nat) (l : List Tk) (v : Value) (w : World) (B : Nat) (hB : B ≤ w.heap.size) (hX : HX w) (hK : Kd w k wB) (hl : l.length ≤ 100000) (hr : w.ownsRow B 23 3 v l.length (cs l))
    (hs : s.size ≤ 100000) (ha : a < s.size) :
    Calls Tryd.prog 114 #[.agg #[k], .string s, .int .i64 (a : Int), v] w (Told B w (stepB s a l).1 (stepB s a l).2) := by
  obtain ⟨c, hc, hcc⟩ := atB_byte s a ha
  unfold stepB
  rw [hcc]
  by_cases h1 : atB s a = 10
  · rw [if_pos h1]; exact readB_end k s a l v w B hB hl hr hs ha h1
  rw [if_neg h1]
  by_cases h2 : atB s a = 35
  · rw [if_pos h2]; exact readB_line k s a l v w B hB hX hr hs ha h2
  rw [if_neg h2]
  by_cases h4 : Lib.hasPrefix (s.data.toList.drop a) [92, 10] = true
  · rw [if_pos h4]
    exact readB_cont k s a l v w B hB hr hs ha _ rfl (by rw [beq_eq_false_iff_ne]; exact h1) (by rw [beq_eq_false_iff_ne]; exact h2) h4
  rw [if_neg h4]
  have h4' : Lib.hasPrefix (s.data.toList.drop a) [92, 10] = false := by simpa using h4
  by_cases h3 : atB s a = 92
  · rw [if_pos h3]; exact readB_mark k s a l v w B hB hl hr hs ha h3 h4'
  rw [if_neg h3]
  rw [hc] at h1 h2 h3
  by_cases h5 : wB c = true
  · rw [if_pos h5]
    exact readB_word k s a l v w B hB hK hl hr hs ha c hc (by rw [beq_eq_false_iff_ne]; exact h1) (by rw [beq_eq_false_iff_ne]; exact h2) (by rw [beq_eq_false_iff_ne]; exact h3) h4' h5
  · rw [if_neg h5]
    exact readB_blank k s a l v w B hB hK hr hs ha c hc (by rw [beq_eq_false_iff_ne]; exact h1) (by rw [beq_eq_false_iff_ne]; exact h2) (by rw [beq_eq_false_iff_ne]; exact h3) h4' (by simpa using h5)
end Go.Proofs.YtfljnhmpelpdaaaDoor.Tok
