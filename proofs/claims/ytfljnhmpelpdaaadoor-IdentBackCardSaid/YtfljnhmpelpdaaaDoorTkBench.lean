/- Bench: what is read at a place. -/
import Derived.Test.YtfljnhmpelpdaaaDoorTkBlif
namespace Go.Proofs.YtfljnhmpelpdaaaDoor.Tok
set_option maxRecDepth 100000
open Go.RowKit

/-- a byte that says nothing; a mark; a byte of a word of BENCH -/
def kBl (c : UInt8) : Bool := isOf ⟨#[9, 13, 32, 10]⟩ c
def kM (c : UInt8) : Bool := isOf ⟨#[61, 40, 41, 44]⟩ c
def wN (c : UInt8) : Bool := isIn 33 126 c && !(kM c || isOf ⟨#[35]⟩ c)

def stepN (s : ByteArray) (a : Nat) (l : List Tk) : Option (List Tk × Nat) :=
  if kBl (UInt8.ofNat (atB s a).toNat) then some (l, a + 1)
  else if atB s a = 35 then some (l, upP s a ⟨#[10]⟩)
  else if kM (UInt8.ofNat (atB s a).toNat) then some (l ++ [⟨1, s.extract a (a + 1), a⟩], a + 1)
  else if wN (UInt8.ofNat (atB s a).toNat) then some (l ++ [⟨0, s.extract a (skip wN s a), a⟩], skip wN s a)
  else none

/-- what a reader tells, or where it stops -/
def ToldO (B : Nat) (w : World) (a : Nat) (r : Option (List Tk × Nat)) (e : Ending) (w' : World) : Prop :=
  match r with
  | some (l, b) => Told B w l b e w'
  | none => e = .panicked [{ v := .iface 84 (.agg #[.int .i64 (a : Int)]), recovered := false }] ∧ Below B w w'

set_option maxRecDepth 100000 in
set_option maxHeartbeats 1000000 in
theorem readN_blank (k1 k2 k3 : Value) (s : ByteArray) (a : Nat) (l : List Tk) (v : Value) (w : World) (B : Nat) (hB : B ≤ w.heap.size) (hK1 : Kd w k1 kBl) (hr : w.ownsRow B 23 3 v l.length (cs l))
    (hs : s.size ≤ 100000) (ha : a < s.size) (c : UInt8) (hc : atB s a = (c.toNat : Int)) (h1 : kBl c = true) :
    Calls Tryd.prog 120 #[.agg #[k1, k2, k3], .string s, .int .i64 (a : Int), v] w (Told B w l (a + 1)) := by
  have hix := atB_run s a ha _ hc
  have ha' : (a : Int) ≤ 100000 := by omega
  have hai : (a : Int) ≤ (s.size : Int) := by omega
  obtain ⟨g1, lb1, rfl, eg1, hcl1⟩ := hK1
  have HC1 := Lib.hid fun W hb => hcl1 W hb c
  rw [h1] at HC1
  have HR := Lib.hid hr
  have HB := Lib.hid ((Below.refl _ w).alloc (Nat.le_refl _) (.cells #[.func (.func g1) #[] lb1, k2, k3] 70))
  clear hcl1 hc hr
  go_enter Tryd.func120, Tryd.ntmps120
  go_wp2_with fail
  go_quiet (exact Calls.quiet_of_same ((HC1.out _ (below_drewN HB.out _)).mono fun e w' h => ⟨h.1, h.2.symm⟩))
  go_wp2
  go_ret2
  exact ⟨_, by push_cast; rfl, HR.out.alloc _, below_drewN (HB.out.mono hB) _⟩

set_option maxRecDepth 100000 in
set_option maxHeartbeats 1000000 in
theorem readN_line (k1 k2 k3 : Value) (s : ByteArray) (a : Nat) (l : List Tk) (v : Value) (w : World) (B : Nat) (hB : B ≤ w.heap.size) (hX : HX w) (hK1 : Kd w k1 kBl) (hr : w.ownsRow B 23 3 v l.length (cs l))
    (hs : s.size ≤ 100000) (ha : a < s.size) (c : UInt8) (hc : atB s a = (c.toNat : Int)) (h1 : kBl c = false) (h2 : ((c.toNat : Int) == 35) = true) :
    Calls Tryd.prog 120 #[.agg #[k1, k2, k3], .string s, .int .i64 (a : Int), v] w (Told B w l (upP s a ⟨#[10]⟩)) := by
  have hix := atB_run s a ha _ hc
  have ha' : (a : Int) ≤ 100000 := by omega
  have hai : (a : Int) ≤ (s.size : Int) := by omega
  obtain ⟨g1, lb1, rfl, eg1, hcl1⟩ := hK1
  have HC1 := Lib.hid fun W hb => hcl1 W hb c
  rw [h1] at HC1
  have HR := Lib.hid hr
  have HXX := Lib.hid hX
  have HB := Lib.hid ((Below.refl _ w).alloc (Nat.le_refl _) (.cells #[.func (.func g1) #[] lb1, k2, k3] 70))
  clear hcl1 hc hr hX
  go_enter Tryd.func120, Tryd.ntmps120
  go_wp2_with fail
  go_quiet (exact Calls.quiet_of_same ((HC1.out _ (below_drewN HB.out _)).mono fun e w' h => ⟨h.1, h.2.symm⟩))
  go_wp2_with fail
  refine (upTo_any s a ⟨#[10]⟩ _ (by omega) (by omega) (HXX.out.below (below_drewN HB.out _))).mono ?_
  rintro e w' ⟨rfl, rfl⟩
  go_wp2
  go_ret2
  exact ⟨_, rfl, HR.out.alloc _, below_drewN (HB.out.mono hB) _⟩

set_option maxRecDepth 100000 in
set_option maxHeartbeats 1000000 in
theorem readN_mark (k1 k2 k3 : Value) (s : ByteArray) (a : Nat) (l : List Tk) (v : Value) (w : World) (B : Nat) (hB : B ≤ w.heap.size) (hK1 : Kd w k1 kBl) (hK2 : Kd w k2 kM) (hl : l.length ≤ 100000) (hr : w.ownsRow B 23 3 v l.length (cs l))
    (hs : s.size ≤ 100000) (ha : a < s.size) (c : UInt8) (hc : atB s a = (c.toNat : Int)) (h1 : kBl c = false) (h2 : ((c.toNat : Int) == 35) = false) (h3 : kM c = true) :
    Calls Tryd.prog 120 #[.agg #[k1, k2, k3], .string s, .int .i64 (a : Int), v] w (Told B w (l ++ [⟨1, s.extract a (a + 1), a⟩]) (a + 1)) := by
  obtain ⟨i0, hi, hz0, hz1, hz2⟩ := info_parts info42
  have hsl := slice_one s a ha
  have hix := atB_run s a ha _ hc
  have ha' : (a : Int) ≤ 100000 := by omega
  have hai : (a : Int) ≤ (s.size : Int) := by omega
  have HKK1 := Lib.hid hK1
  obtain ⟨g1, lb1, rfl, eg1, hcl1⟩ := hK1
  have HC1 := Lib.hid fun W hb => hcl1 W hb c
  rw [h1] at HC1
  clear hcl1
  have HKK2 := Lib.hid hK2
  obtain ⟨g2, lb2, rfl, eg2, hcl2⟩ := hK2
  have HC2 := Lib.hid fun W hb => hcl2 W hb c
  rw [h3] at HC2
  clear hcl2
  have HR := Lib.hid hr
  have HB := Lib.hid ((Below.refl _ w).alloc (Nat.le_refl _) (.cells #[.func (.func g1) #[] lb1, .func (.func g2) #[] lb2, k3] 70))
  clear hc hr
  go_enter Tryd.func120, Tryd.ntmps120
  go_wp2_with fail
  go_quiet (exact Calls.quiet_of_same ((HC1.out _ (below_drewN HB.out _)).mono fun e w' h => ⟨h.1, h.2.symm⟩))
  have hk1 : Blk ((w.alloc (.cells #[.func (.func g1) #[] lb1, .func (.func g2) #[] lb2, k3] 70)).drewN nq) w.heap.size #[.func (.func g1) #[] lb1, .func (.func g2) #[] lb2, k3] 70 := Blk.new w _ _
  have hr1 : ((w.alloc (.cells #[.func (.func g1) #[] lb1, .func (.func g2) #[] lb2, k3] 70)).drewN nq).ownsRow B 23 3 v l.length (cs l) := HR.out.alloc _
  have HB1 := Lib.hid (below_drewN HB.out nq)
  generalize (w.alloc (.cells #[.func (.func g1) #[] lb1, .func (.func g2) #[] lb2, k3] 70)).drewN nq = W1 at hk1 hr1 HB1
  have hc10 := hk1.cell 0
  have hc11 := hk1.cell 1
  have hc12 := hk1.cell 2
  simp at hc10 hc11 hc12
  have HK1 := Lib.hid hk1
  clear hk1 HR HB
  go_wp2_with fail
  go_quiet (exact Calls.quiet_of_same ((HC2.out _ (below_drewN HB1.out _)).mono fun e w' h => ⟨h.1, h.2.symm⟩))
  have hk2 : Blk (W1.drewN nq) w.heap.size #[.func (.func g1) #[] lb1, .func (.func g2) #[] lb2, k3] 70 := HK1.out
  have hr2 : (W1.drewN nq).ownsRow B 23 3 v l.length (cs l) := hr1
  have HB2 := Lib.hid (below_drewN HB1.out nq)
  clear hc10 hc11 hc12 hr1
  generalize W1.drewN nq = W2 at hk2 hr2 HB2
  have hc20 := hk2.cell 0
  have hc21 := hk2.cell 1
  have hc22 := hk2.cell 2
  simp at hc20 hc21 hc22
  have HK2 := Lib.hid hk2
  clear hk2
  have hBW2 : B ≤ W2.heap.size := Nat.le_trans hB HB2.out.size
  go_wp2_with (at_builtin; refine wpList_append_own _ rfl _ _ 36 rfl B 23 i0 (.agg #[.int .i64 0, .string ⟨#[]⟩, .int .i64 0]) 3 32 Tryd.underlying36 hi hz0 hz1 hz2 rfl (by decide) _ _ _ rfl (hr2.alloc _) ⟨W2.heap.size, 0, none⟩ 1 1 [.int .i64 1, .string (s.extract a (a + 1)), .int .i64 (a : Int)] rfl rfl (cell_three_new _ _ _ _ _) (fun x hx => by simp at hx; rcases hx with rfl | rfl | rfl <;> rfl) (by unfold maxLen; omega) (by omega) (by simp; omega) ?_; intro v' w1 hown' hgrow _)
  go_ret2
  refine ⟨v', by push_cast; rfl, ?_, Below.grown ((HB2.out.mono hB).alloc hBW2 _) hgrow (by simp; omega) (fun j hj => (hr2.lt j hj).1)⟩
  rw [cs_append, List.length_append]
  exact hown'

set_option maxRecDepth 100000 in
set_option maxHeartbeats 1000000 in
theorem readN_word (k1 k2 k3 : Value) (s : ByteArray) (a : Nat) (l : List Tk) (v : Value) (w : World) (B : Nat) (hB : B ≤ w.heap.size) (hK1 : Kd w k1 kBl) (hK2 : Kd w k2 kM) (hK3 : Kd w k3 wN) (hl : l.length ≤ 100000) (hr : w.ownsRow B 23 3 v l.length (cs l))
    (hs : s.size ≤ 100000) (ha : a < s.size) (c : UInt8) (hc : atB s a = (c.toNat : Int)) (h1 : kBl c = false) (h2 : ((c.toNat : Int) == 35) = false) (h3 : kM c = false) (h4 : wN c = true) :
    Calls Tryd.prog 120 #[.agg #[k1, k2, k3], .string s, .int .i64 (a : Int), v] w (Told B w (l ++ [⟨0, s.extract a (skip wN s a), a⟩]) (skip wN s a)) := by
  obtain ⟨i0, hi, hz0, hz1, hz2⟩ := info_parts info42
  have hix := atB_run s a ha _ hc
  have ha' : (a : Int) ≤ 100000 := by omega
  have hai : (a : Int) ≤ (s.size : Int) := by omega
  have HKK1 := Lib.hid hK1
  obtain ⟨g1, lb1, rfl, eg1, hcl1⟩ := hK1
  have HC1 := Lib.hid fun W hb => hcl1 W hb c
  rw [h1] at HC1
  clear hcl1
  have HKK2 := Lib.hid hK2
  obtain ⟨g2, lb2, rfl, eg2, hcl2⟩ := hK2
  have HC2 := Lib.hid fun W hb => hcl2 W hb c
  rw [h3] at HC2
  clear hcl2
  have HKK3 := Lib.hid hK3
  obtain ⟨g3, lb3, rfl, eg3, hcl3⟩ := hK3
  have HC3 := Lib.hid fun W hb => hcl3 W hb c
  rw [h4] at HC3
  clear hcl3
  have HR := Lib.hid hr
  have HB := Lib.hid ((Below.refl _ w).alloc (Nat.le_refl _) (.cells #[.func (.func g1) #[] lb1, .func (.func g2) #[] lb2, .func (.func g3) #[] lb3] 70))
  clear hc hr
  go_enter Tryd.func120, Tryd.ntmps120
  go_wp2_with fail
  go_quiet (exact Calls.quiet_of_same ((HC1.out _ (below_drewN HB.out _)).mono fun e w' h => ⟨h.1, h.2.symm⟩))
  have hk1 : Blk ((w.alloc (.cells #[.func (.func g1) #[] lb1, .func (.func g2) #[] lb2, .func (.func g3) #[] lb3] 70)).drewN nq) w.heap.size #[.func (.func g1) #[] lb1, .func (.func g2) #[] lb2, .func (.func g3) #[] lb3] 70 := Blk.new w _ _
  have hr1 : ((w.alloc (.cells #[.func (.func g1) #[] lb1, .func (.func g2) #[] lb2, .func (.func g3) #[] lb3] 70)).drewN nq).ownsRow B 23 3 v l.length (cs l) := HR.out.alloc _
  have HB1 := Lib.hid (below_drewN HB.out nq)
  generalize (w.alloc (.cells #[.func (.func g1) #[] lb1, .func (.func g2) #[] lb2, .func (.func g3) #[] lb3] 70)).drewN nq = W1 at hk1 hr1 HB1
  have hc10 := hk1.cell 0
  have hc11 := hk1.cell 1
  have hc12 := hk1.cell 2
  simp at hc10 hc11 hc12
  have HK1 := Lib.hid hk1
  clear hk1 HR HB
  go_wp2_with fail
  go_quiet (exact Calls.quiet_of_same ((HC2.out _ (below_drewN HB1.out _)).mono fun e w' h => ⟨h.1, h.2.symm⟩))
  have hk2 : Blk (W1.drewN nq) w.heap.size #[.func (.func g1) #[] lb1, .func (.func g2) #[] lb2, .func (.func g3) #[] lb3] 70 := HK1.out
  have hr2 : (W1.drewN nq).ownsRow B 23 3 v l.length (cs l) := hr1
  have HB2 := Lib.hid (below_drewN HB1.out nq)
  clear hc10 hc11 hc12 hr1
  generalize W1.drewN nq = W2 at hk2 hr2 HB2
  have hc20 := hk2.cell 0
  have hc21 := hk2.cell 1
  have hc22 := hk2.cell 2
  simp at hc20 hc21 hc22
  have HK2 := Lib.hid hk2
  clear hk2
  have hBW2 : B ≤ W2.heap.size := Nat.le_trans hB HB2.out.size
  go_wp2_with fail
  go_quiet (exact Calls.quiet_of_same ((HC3.out _ (below_drewN HB2.out _)).mono fun e w' h => ⟨h.1, h.2.symm⟩))
  have hk3 : Blk (W2.drewN nq) w.heap.size #[.func (.func g1) #[] lb1, .func (.func g2) #[] lb2, .func (.func g3) #[] lb3] 70 := HK2.out
  have hr3 : (W2.drewN nq).ownsRow B 23 3 v l.length (cs l) := hr2
  have HB3 := Lib.hid (below_drewN HB2.out nq)
  clear hc20 hc21 hc22 hr2 hBW2
  generalize W2.drewN nq = W3 at hk3 hr3 HB3
  have hc30 := hk3.cell 0
  have hc31 := hk3.cell 1
  have hc32 := hk3.cell 2
  simp at hc30 hc31 hc32
  clear hk3
  have hBW3 : B ≤ W3.heap.size := Nat.le_trans hB HB3.out.size
  have hsk1 := skip_ge wN s a
  have hsk2 := skip_le wN s a (by omega)
  have hsl := slice_eq s a (skip wN s a) hsk1 hsk2
  obtain ⟨to, hto⟩ : ∃ to, skip wN s a = to := ⟨_, rfl⟩
  rw [hto] at hsk1 hsk2 hsl
  have HTO := Lib.hid hto
  clear hto
  go_wp2_with fail
  refine (behind_any _ wN s a W3 (by omega) (by omega) (HKK3.out.below HB3.out)).mono ?_
  rintro e w' ⟨rfl, rfl⟩
  rw [HTO.out]
  go_wp2_with (at_builtin; refine wpList_append_own _ rfl _ _ 36 rfl B 23 i0 (.agg #[.int .i64 0, .string ⟨#[]⟩, .int .i64 0]) 3 32 Tryd.underlying36 hi hz0 hz1 hz2 rfl (by decide) _ _ _ rfl (hr3.alloc _) ⟨W3.heap.size, 0, none⟩ 1 1 [.int .i64 0, .string (s.extract a to), .int .i64 (a : Int)] rfl rfl (cell_three_new _ _ _ _ _) (fun x hx => by simp at hx; rcases hx with rfl | rfl | rfl <;> rfl) (by unfold maxLen; omega) (by omega) (by simp; omega) ?_; intro v' w1 hown' hgrow _)
  go_ret2
  rw [HTO.out]
  refine ⟨v', rfl, ?_, Below.grown ((HB3.out.mono hB).alloc hBW3 _) hgrow (by simp; omega) (fun j hj => (hr3.lt j hj).1)⟩
  rw [cs_append, List.length_append]
  exact hown'

set_option maxRecDepth 100000 in
set_option maxHeartbeats 1000000 in
theorem readN_bad (k1 k2 k3 : Value) (s : ByteArray) (a : Nat) (l : List Tk) (v : Value) (w : World) (B : Nat) (hB : B ≤ w.heap.size) (hK1 : Kd w k1 kBl) (hK2 : Kd w k2 kM) (hK3 : Kd w k3 wN) (hr : w.ownsRow B 23 3 v l.length (cs l))
    (hs : s.size ≤ 100000) (ha : a < s.size) (c : UInt8) (hc : atB s a = (c.toNat : Int)) (h1 : kBl c = false) (h2 : ((c.toNat : Int) == 35) = false) (h3 : kM c = false) (h4 : wN c = false) :
    Calls Tryd.prog 120 #[.agg #[k1, k2, k3], .string s, .int .i64 (a : Int), v] w (fun e w' => e = .panicked [{ v := .iface 84 (.agg #[.int .i64 (a : Int)]), recovered := false }] ∧ Below B w w') := by
  have hix := atB_run s a ha _ hc
  have ha' : (a : Int) ≤ 100000 := by omega
  have hai : (a : Int) ≤ (s.size : Int) := by omega
  have HKK1 := Lib.hid hK1
  obtain ⟨g1, lb1, rfl, eg1, hcl1⟩ := hK1
  have HC1 := Lib.hid fun W hb => hcl1 W hb c
  rw [h1] at HC1
  clear hcl1
  have HKK2 := Lib.hid hK2
  obtain ⟨g2, lb2, rfl, eg2, hcl2⟩ := hK2
  have HC2 := Lib.hid fun W hb => hcl2 W hb c
  rw [h3] at HC2
  clear hcl2
  have HKK3 := Lib.hid hK3
  obtain ⟨g3, lb3, rfl, eg3, hcl3⟩ := hK3
  have HC3 := Lib.hid fun W hb => hcl3 W hb c
  rw [h4] at HC3
  clear hcl3
  have HR := Lib.hid hr
  have HB := Lib.hid ((Below.refl _ w).alloc (Nat.le_refl _) (.cells #[.func (.func g1) #[] lb1, .func (.func g2) #[] lb2, .func (.func g3) #[] lb3] 70))
  clear hc hr
  go_enter Tryd.func120, Tryd.ntmps120
  go_wp2_with fail
  go_quiet (exact Calls.quiet_of_same ((HC1.out _ (below_drewN HB.out _)).mono fun e w' h => ⟨h.1, h.2.symm⟩))
  have hk1 : Blk ((w.alloc (.cells #[.func (.func g1) #[] lb1, .func (.func g2) #[] lb2, .func (.func g3) #[] lb3] 70)).drewN nq) w.heap.size #[.func (.func g1) #[] lb1, .func (.func g2) #[] lb2, .func (.func g3) #[] lb3] 70 := Blk.new w _ _
  have hr1 : ((w.alloc (.cells #[.func (.func g1) #[] lb1, .func (.func g2) #[] lb2, .func (.func g3) #[] lb3] 70)).drewN nq).ownsRow B 23 3 v l.length (cs l) := HR.out.alloc _
  have HB1 := Lib.hid (below_drewN HB.out nq)
  generalize (w.alloc (.cells #[.func (.func g1) #[] lb1, .func (.func g2) #[] lb2, .func (.func g3) #[] lb3] 70)).drewN nq = W1 at hk1 hr1 HB1
  have hc10 := hk1.cell 0
  have hc11 := hk1.cell 1
  have hc12 := hk1.cell 2
  simp at hc10 hc11 hc12
  have HK1 := Lib.hid hk1
  clear hk1 HR HB
  go_wp2_with fail
  go_quiet (exact Calls.quiet_of_same ((HC2.out _ (below_drewN HB1.out _)).mono fun e w' h => ⟨h.1, h.2.symm⟩))
  have hk2 : Blk (W1.drewN nq) w.heap.size #[.func (.func g1) #[] lb1, .func (.func g2) #[] lb2, .func (.func g3) #[] lb3] 70 := HK1.out
  have hr2 : (W1.drewN nq).ownsRow B 23 3 v l.length (cs l) := hr1
  have HB2 := Lib.hid (below_drewN HB1.out nq)
  clear hc10 hc11 hc12 hr1
  generalize W1.drewN nq = W2 at hk2 hr2 HB2
  have hc20 := hk2.cell 0
  have hc21 := hk2.cell 1
  have hc22 := hk2.cell 2
  simp at hc20 hc21 hc22
  have HK2 := Lib.hid hk2
  clear hk2
  have hBW2 : B ≤ W2.heap.size := Nat.le_trans hB HB2.out.size
  go_wp2_with fail
  go_quiet (exact Calls.quiet_of_same ((HC3.out _ (below_drewN HB2.out _)).mono fun e w' h => ⟨h.1, h.2.symm⟩))
  have hk3 : Blk (W2.drewN nq) w.heap.size #[.func (.func g1) #[] lb1, .func (.func g2) #[] lb2, .func (.func g3) #[] lb3] 70 := HK2.out
  have hr3 : (W2.drewN nq).ownsRow B 23 3 v l.length (cs l) := hr2
  have HB3 := Lib.hid (below_drewN HB2.out nq)
  clear hc20 hc21 hc22 hr2 hBW2
  generalize W2.drewN nq = W3 at hk3 hr3 HB3
  have hc30 := hk3.cell 0
  have hc31 := hk3.cell 1
  have hc32 := hk3.cell 2
  simp at hc30 hc31 hc32
  clear hk3
  have hBW3 : B ≤ W3.heap.size := Nat.le_trans hB HB3.out.size
  go_wp2
  exact ⟨rfl, rfl, HB3.out.mono hB⟩

theorem readN_any (k1 k2 k3 : Value) (s : ByteArray) (a : Nat) (l : List Tk) (v : Value) (w : World) (B : Nat) (hB : B ≤ w.heap.size) (hX : HX w) (hK1 : Kd w k1 kBl) (hK2 : Kd w k2 kM) (hK3 : Kd w k3 wN) (hl : l.length ≤ 100000) (hr : w.ownsRow B 23 3 v l.length (cs l))
    (hs : s.size ≤ 100000) (ha : a < s.size) :
    Calls Tryd.prog 120 #[.agg #[k1, k2, k3], .string s, .int .i64 (a : Int), v] w (ToldO B w a (stepN s a l)) := by
  obtain ⟨c, hc, hcc⟩ := atB_byte s a ha
  unfold stepN
  rw [hcc]
  by_cases h1 : kBl c = true
  · rw [if_pos h1]; exact readN_blank k1 k2 k3 s a l v w B hB hK1 hr hs ha c hc h1
  rw [if_neg h1]
  have h1' : kBl c = false := by simpa using h1
  by_cases h2 : atB s a = 35
  · rw [if_pos h2]; exact readN_line k1 k2 k3 s a l v w B hB hX hK1 hr hs ha c hc h1' (by rw [← hc, h2]; rfl)
  rw [if_neg h2]
  have h2' : ((c.toNat : Int) == 35) = false := by rw [← hc, beq_eq_false_iff_ne]; exact h2
  by_cases h3 : kM c = true
  · rw [if_pos h3]; exact readN_mark k1 k2 k3 s a l v w B hB hK1 hK2 hl hr hs ha c hc h1' h2' h3
  rw [if_neg h3]
  have h3' : kM c = false := by simpa using h3
  by_cases h4 : wN c = true
  · rw [if_pos h4]; exact readN_word k1 k2 k3 s a l v w B hB hK1 hK2 hK3 hl hr hs ha c hc h1' h2' h3' h4
  · rw [if_neg h4]; exact readN_bad k1 k2 k3 s a l v w B hB hK1 hK2 hK3 hr hs ha c hc h1' h2' h3' (by simpa using h4)
end Go.Proofs.YtfljnhmpelpdaaaDoor.Tok
