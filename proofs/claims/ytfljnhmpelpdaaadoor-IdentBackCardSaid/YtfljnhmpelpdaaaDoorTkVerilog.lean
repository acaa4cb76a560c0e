/- Verilog: what is read at a place. -/
import Derived.Test.YtfljnhmpelpdaaaDoorTkBench
namespace Go.Proofs.YtfljnhmpelpdaaaDoor.Tok
set_option maxRecDepth 100000
open Go.RowKit

/-- a mark; a byte of a word of Verilog -/
def mV (c : UInt8) : Bool := isOf ⟨#[40, 41, 59, 44, 61, 126, 38, 124, 94]⟩ c
def wV (c : UInt8) : Bool := ((isIn 97 122 c || isIn 65 90 c) || isIn 48 57 c) || isOf ⟨#[95, 36, 39]⟩ c

def stepV (s : ByteArray) (a : Nat) (l : List Tk) : Option (List Tk × Nat) :=
  if kBl (UInt8.ofNat (atB s a).toNat) then some (l, a + 1)
  else if Lib.hasPrefix (s.data.toList.drop a) [47, 47] then some (l, upP s a ⟨#[10]⟩)
  else if Lib.hasPrefix (s.data.toList.drop a) [47, 42] then (if upP s (a + 2) ⟨#[42, 47]⟩ = s.size then none else some (l, upP s (a + 2) ⟨#[42, 47]⟩ + 2))
  else if atB s a = 92 then (if skip (isIn 33 126) s (a + 1) = a + 1 then none else some (l ++ [⟨2, s.extract (a + 1) (skip (isIn 33 126) s (a + 1)), a⟩], skip (isIn 33 126) s (a + 1)))
  else if mV (UInt8.ofNat (atB s a).toNat) then some (l ++ [⟨1, s.extract a (a + 1), a⟩], a + 1)
  else if wV (UInt8.ofNat (atB s a).toNat) then some (l ++ [⟨0, s.extract a (skip wV s a), a⟩], skip wV s a)
  else none

theorem upP_le (s : ByteArray) (a : Nat) (t : ByteArray) (h : a ≤ s.size) : upP s a t ≤ s.size := by
  have hle := index_le (s.data.toList.drop a) t.data.toList
  have hll : (s.data.toList.drop a).length = s.size - a := by simp
  unfold upP
  split <;> omega
theorem prefix2 (s : ByteArray) (a : Nat) (x y : UInt8) (h : Lib.hasPrefix (s.data.toList.drop a) [x, y] = true) : a + 2 ≤ s.size := by
  unfold Lib.hasPrefix at h
  rw [List.isPrefixOf_iff_prefix] at h
  have := h.length_le
  simp at this
  omega

set_option maxHeartbeats 1000000 in
theorem remark_bad (s : ByteArray) (a : Nat) (w : World) (hs : s.size ≤ 100000) (ha : a + 2 ≤ s.size) (hX : HX w) (h : upP s (a + 2) ⟨#[42, 47]⟩ = s.size) :
    Calls Tryd.prog 122 #[.string s, .int .i64 (a : Int)] w fun e w' => e = .panicked [{ v := .iface 84 (.agg #[.int .i64 (a : Int)]), recovered := false }] ∧ w = w' := by
  have ha' : (a : Int) ≤ 100000 := by omega
  have hup := upTo_any s (a + 2) ⟨#[42, 47]⟩ w (by omega) ha hX
  rw [h, show ((a + 2 : Nat) : Int) = (a : Int) + 2 from by omega] at hup
  have HU := Lib.hid hup
  clear hup h
  go_enter Tryd.func122, Tryd.ntmps122
  go_wp2_with fail
  refine HU.out.mono ?_
  rintro e w' ⟨rfl, rfl⟩
  go_wp2
  exact ⟨rfl, rfl, by first | rfl | trivial⟩

set_option maxHeartbeats 1000000 in
theorem remark_ok (s : ByteArray) (a : Nat) (w : World) (hs : s.size ≤ 100000) (ha : a + 2 ≤ s.size) (hX : HX w) (h : upP s (a + 2) ⟨#[42, 47]⟩ ≠ s.size) :
    Calls Tryd.prog 122 #[.string s, .int .i64 (a : Int)] w fun e w' => e = .returned (.int .i64 ((upP s (a + 2) ⟨#[42, 47]⟩ : Int) + 2)) ∧ w = w' := by
  have hle := upP_le s (a + 2) ⟨#[42, 47]⟩ ha
  have ha' : (a : Int) ≤ 100000 := by omega
  have hup := upTo_any s (a + 2) ⟨#[42, 47]⟩ w (by omega) ha hX
  generalize upP s (a + 2) ⟨#[42, 47]⟩ = to at hle hup h
  rw [show ((a + 2 : Nat) : Int) = (a : Int) + 2 from by omega] at hup
  have HU := Lib.hid hup
  clear hup
  have h' : ((to : Int) == (s.size : Int)) = false := by rw [beq_eq_false_iff_ne]; omega
  clear h
  go_enter Tryd.func122, Tryd.ntmps122
  go_wp2_with fail
  refine HU.out.mono ?_
  rintro e w' ⟨rfl, rfl⟩
  go_wp2
  go_ret
  exact ⟨rfl, by first | rfl | trivial⟩

set_option maxRecDepth 100000 in
set_option maxHeartbeats 1000000 in
theorem readV_blank (k1 k2 k3 : Value) (s : ByteArray) (a : Nat) (l : List Tk) (v : Value) (w : World) (B : Nat) (hB : B ≤ w.heap.size) (hK1 : Kd w k1 kBl) (hr : w.ownsRow B 23 3 v l.length (cs l))
    (hs : s.size ≤ 100000) (ha : a < s.size) (c : UInt8) (hc : atB s a = (c.toNat : Int)) (h1 : kBl c = true) :
    Calls Tryd.prog 121 #[.agg #[k1, k2, k3], .string s, .int .i64 (a : Int), v] w (Told B w l (a + 1)) := by
  have hix := atB_run s a ha _ hc
  have ha' : (a : Int) ≤ 100000 := by omega
  have hai : (a : Int) ≤ (s.size : Int) := by omega
  have HKK1 := Lib.hid hK1
  obtain ⟨g1, lb1, rfl, eg1, hcl1⟩ := hK1
  have HC1 := Lib.hid fun W hb => hcl1 W hb c
  rw [h1] at HC1
  clear hcl1
  have HR := Lib.hid hr
  have HB := Lib.hid ((Below.refl _ w).alloc (Nat.le_refl _) (.cells #[.func (.func g1) #[] lb1, k2, k3] 72))
  clear hc hr
  go_enter Tryd.func121, Tryd.ntmps121
  go_wp2_with fail
  go_quiet (exact Calls.quiet_of_same ((HC1.out _ (below_drewN HB.out _)).mono fun e w' h => ⟨h.1, h.2.symm⟩))
  have hk1 : Blk ((w.alloc (.cells #[.func (.func g1) #[] lb1, k2, k3] 72)).drewN nq) w.heap.size #[.func (.func g1) #[] lb1, k2, k3] 72 := Blk.new w _ _
  have hr1 : ((w.alloc (.cells #[.func (.func g1) #[] lb1, k2, k3] 72)).drewN nq).ownsRow B 23 3 v l.length (cs l) := HR.out.alloc _
  have HB1 := Lib.hid (below_drewN HB.out nq)
  generalize (w.alloc (.cells #[.func (.func g1) #[] lb1, k2, k3] 72)).drewN nq = W1 at hk1 hr1 HB1
  have hc10 := hk1.cell 0
  have hc11 := hk1.cell 1
  have hc12 := hk1.cell 2
  simp at hc10 hc11 hc12
  have HK1 := Lib.hid hk1
  have hBW1 : B ≤ W1.heap.size := Nat.le_trans hB HB1.out.size
  clear hk1 HR HB
  go_wp2
  go_ret2
  exact ⟨_, by push_cast; rfl, hr1, HB1.out.mono hB⟩

set_option maxRecDepth 100000 in
set_option maxHeartbeats 1000000 in
theorem readV_line (k1 k2 k3 : Value) (s : ByteArray) (a : Nat) (l : List Tk) (v : Value) (w : World) (B : Nat) (hB : B ≤ w.heap.size) (hX : HX w) (hK1 : Kd w k1 kBl) (hr : w.ownsRow B 23 3 v l.length (cs l))
    (hs : s.size ≤ 100000) (ha : a < s.size) (c : UInt8) (hc : atB s a = (c.toNat : Int)) (h1 : kBl c = false) (h2 : Lib.hasPrefix (s.data.toList.drop a) [47, 47] = true) :
    Calls Tryd.prog 121 #[.agg #[k1, k2, k3], .string s, .int .i64 (a : Int), v] w (Told B w l (upP s a ⟨#[10]⟩)) := by
  have hix := atB_run s a ha _ hc
  have ha' : (a : Int) ≤ 100000 := by omega
  have hai : (a : Int) ≤ (s.size : Int) := by omega
  have hph2 := Tryd.strings_HasPrefix (s.extract a s.size) ⟨#[47, 47]⟩
  rw [ext1, show (⟨#[47, 47]⟩ : ByteArray).data.toList = [47, 47] from rfl, h2] at hph2
  have Hhph2 := Lib.hid hph2
  clear hph2
  have HXX := Lib.hid hX
  clear hX
  have HKK1 := Lib.hid hK1
  obtain ⟨g1, lb1, rfl, eg1, hcl1⟩ := hK1
  have HC1 := Lib.hid fun W hb => hcl1 W hb c
  rw [h1] at HC1
  clear hcl1
  have HR := Lib.hid hr
  have HB := Lib.hid ((Below.refl _ w).alloc (Nat.le_refl _) (.cells #[.func (.func g1) #[] lb1, k2, k3] 72))
  clear hc hr
  go_enter Tryd.func121, Tryd.ntmps121
  go_wp2_with fail
  go_quiet (exact Calls.quiet_of_same ((HC1.out _ (below_drewN HB.out _)).mono fun e w' h => ⟨h.1, h.2.symm⟩))
  have hk1 : Blk ((w.alloc (.cells #[.func (.func g1) #[] lb1, k2, k3] 72)).drewN nq) w.heap.size #[.func (.func g1) #[] lb1, k2, k3] 72 := Blk.new w _ _
  have hr1 : ((w.alloc (.cells #[.func (.func g1) #[] lb1, k2, k3] 72)).drewN nq).ownsRow B 23 3 v l.length (cs l) := HR.out.alloc _
  have HB1 := Lib.hid (below_drewN HB.out nq)
  generalize (w.alloc (.cells #[.func (.func g1) #[] lb1, k2, k3] 72)).drewN nq = W1 at hk1 hr1 HB1
  have hc10 := hk1.cell 0
  have hc11 := hk1.cell 1
  have hc12 := hk1.cell 2
  simp at hc10 hc11 hc12
  have HK1 := Lib.hid hk1
  have hBW1 : B ≤ W1.heap.size := Nat.le_trans hB HB1.out.size
  clear hk1 HR HB
  go_wp2_with fail
  refine (Hhph2.out _).mono ?_
  rintro e w' ⟨rfl, hw⟩
  rw [hw]
  clear hw w'
  go_wp2_with fail
  refine (upTo_any s a ⟨#[10]⟩ _ (by omega) (by omega) (HXX.out.below HB1.out)).mono ?_
  rintro e w' ⟨rfl, rfl⟩
  go_wp2
  go_ret2
  exact ⟨_, rfl, hr1, HB1.out.mono hB⟩

set_option maxRecDepth 100000 in
set_option maxHeartbeats 1000000 in
theorem readV_remark (k1 k2 k3 : Value) (s : ByteArray) (a : Nat) (l : List Tk) (v : Value) (w : World) (B : Nat) (hB : B ≤ w.heap.size) (hX : HX w) (hK1 : Kd w k1 kBl) (hr : w.ownsRow B 23 3 v l.length (cs l))
    (hs : s.size ≤ 100000) (ha : a < s.size) (c : UInt8) (hc : atB s a = (c.toNat : Int)) (h1 : kBl c = false) (h2 : Lib.hasPrefix (s.data.toList.drop a) [47, 47] = false) (h3 : Lib.hasPrefix (s.data.toList.drop a) [47, 42] = true) (h4 : upP s (a + 2) ⟨#[42, 47]⟩ ≠ s.size) :
    Calls Tryd.prog 121 #[.agg #[k1, k2, k3], .string s, .int .i64 (a : Int), v] w (Told B w l (upP s (a + 2) ⟨#[42, 47]⟩ + 2)) := by
  have hp2 := prefix2 s a _ _ h3
  have H4 := Lib.hid h4
  clear h4
  have hix := atB_run s a ha _ hc
  have ha' : (a : Int) ≤ 100000 := by omega
  have hai : (a : Int) ≤ (s.size : Int) := by omega
  have hph2 := Tryd.strings_HasPrefix (s.extract a s.size) ⟨#[47, 47]⟩
  rw [ext1, show (⟨#[47, 47]⟩ : ByteArray).data.toList = [47, 47] from rfl, h2] at hph2
  have Hhph2 := Lib.hid hph2
  clear hph2
  have hph3 := Tryd.strings_HasPrefix (s.extract a s.size) ⟨#[47, 42]⟩
  rw [ext1, show (⟨#[47, 42]⟩ : ByteArray).data.toList = [47, 42] from rfl, h3] at hph3
  have Hhph3 := Lib.hid hph3
  clear hph3
  have HXX := Lib.hid hX
  clear hX
  have HKK1 := Lib.hid hK1
  obtain ⟨g1, lb1, rfl, eg1, hcl1⟩ := hK1
  have HC1 := Lib.hid fun W hb => hcl1 W hb c
  rw [h1] at HC1
  clear hcl1
  have HR := Lib.hid hr
  have HB := Lib.hid ((Below.refl _ w).alloc (Nat.le_refl _) (.cells #[.func (.func g1) #[] lb1, k2, k3] 72))
  clear hc hr
  go_enter Tryd.func121, Tryd.ntmps121
  go_wp2_with fail
  go_quiet (exact Calls.quiet_of_same ((HC1.out _ (below_drewN HB.out _)).mono fun e w' h => ⟨h.1, h.2.symm⟩))
  have hk1 : Blk ((w.alloc (.cells #[.func (.func g1) #[] lb1, k2, k3] 72)).drewN nq) w.heap.size #[.func (.func g1) #[] lb1, k2, k3] 72 := Blk.new w _ _
  have hr1 : ((w.alloc (.cells #[.func (.func g1) #[] lb1, k2, k3] 72)).drewN nq).ownsRow B 23 3 v l.length (cs l) := HR.out.alloc _
  have HB1 := Lib.hid (below_drewN HB.out nq)
  generalize (w.alloc (.cells #[.func (.func g1) #[] lb1, k2, k3] 72)).drewN nq = W1 at hk1 hr1 HB1
  have hc10 := hk1.cell 0
  have hc11 := hk1.cell 1
  have hc12 := hk1.cell 2
  simp at hc10 hc11 hc12
  have HK1 := Lib.hid hk1
  have hBW1 : B ≤ W1.heap.size := Nat.le_trans hB HB1.out.size
  clear hk1 HR HB
  go_wp2_with fail
  refine (Hhph2.out _).mono ?_
  rintro e w' ⟨rfl, hw⟩
  rw [hw]
  clear hw w'
  go_wp2_with fail
  refine (Hhph3.out _).mono ?_
  rintro e w' ⟨rfl, hw⟩
  rw [hw]
  clear hw w'
  have hto := upP_le s (a + 2) ⟨#[42, 47]⟩ hp2
  go_wp2_with fail
  refine (remark_ok s a _ hs hp2 (HXX.out.below HB1.out) H4.out).mono ?_
  rintro e w' ⟨rfl, rfl⟩
  go_wp2
  go_ret2
  exact ⟨_, by push_cast; rfl, hr1, HB1.out.mono hB⟩

set_option maxRecDepth 100000 in
set_option maxHeartbeats 1000000 in
theorem readV_remarkBad (k1 k2 k3 : Value) (s : ByteArray) (a : Nat) (l : List Tk) (v : Value) (w : World) (B : Nat) (hB : B ≤ w.heap.size) (hX : HX w) (hK1 : Kd w k1 kBl) (hr : w.ownsRow B 23 3 v l.length (cs l))
    (hs : s.size ≤ 100000) (ha : a < s.size) (c : UInt8) (hc : atB s a = (c.toNat : Int)) (h1 : kBl c = false) (h2 : Lib.hasPrefix (s.data.toList.drop a) [47, 47] = false) (h3 : Lib.hasPrefix (s.data.toList.drop a) [47, 42] = true) (h4 : upP s (a + 2) ⟨#[42, 47]⟩ = s.size) :
    Calls Tryd.prog 121 #[.agg #[k1, k2, k3], .string s, .int .i64 (a : Int), v] w (fun e w' => e = .panicked [{ v := .iface 84 (.agg #[.int .i64 (a : Int)]), recovered := false }] ∧ Below B w w') := by
  have hp2 := prefix2 s a _ _ h3
  have H4 := Lib.hid h4
  clear h4
  have hix := atB_run s a ha _ hc
  have ha' : (a : Int) ≤ 100000 := by omega
  have hai : (a : Int) ≤ (s.size : Int) := by omega
  have hph2 := Tryd.strings_HasPrefix (s.extract a s.size) ⟨#[47, 47]⟩
  rw [ext1, show (⟨#[47, 47]⟩ : ByteArray).data.toList = [47, 47] from rfl, h2] at hph2
  have Hhph2 := Lib.hid hph2
  clear hph2
  have hph3 := Tryd.strings_HasPrefix (s.extract a s.size) ⟨#[47, 42]⟩
  rw [ext1, show (⟨#[47, 42]⟩ : ByteArray).data.toList = [47, 42] from rfl, h3] at hph3
  have Hhph3 := Lib.hid hph3
  clear hph3
  have HXX := Lib.hid hX
  clear hX
  have HKK1 := Lib.hid hK1
  obtain ⟨g1, lb1, rfl, eg1, hcl1⟩ := hK1
  have HC1 := Lib.hid fun W hb => hcl1 W hb c
  rw [h1] at HC1
  clear hcl1
  have HR := Lib.hid hr
  have HB := Lib.hid ((Below.refl _ w).alloc (Nat.le_refl _) (.cells #[.func (.func g1) #[] lb1, k2, k3] 72))
  clear hc hr
  go_enter Tryd.func121, Tryd.ntmps121
  go_wp2_with fail
  go_quiet (exact Calls.quiet_of_same ((HC1.out _ (below_drewN HB.out _)).mono fun e w' h => ⟨h.1, h.2.symm⟩))
  have hk1 : Blk ((w.alloc (.cells #[.func (.func g1) #[] lb1, k2, k3] 72)).drewN nq) w.heap.size #[.func (.func g1) #[] lb1, k2, k3] 72 := Blk.new w _ _
  have hr1 : ((w.alloc (.cells #[.func (.func g1) #[] lb1, k2, k3] 72)).drewN nq).ownsRow B 23 3 v l.length (cs l) := HR.out.alloc _
  have HB1 := Lib.hid (below_drewN HB.out nq)
  generalize (w.alloc (.cells #[.func (.func g1) #[] lb1, k2, k3] 72)).drewN nq = W1 at hk1 hr1 HB1
  have hc10 := hk1.cell 0
  have hc11 := hk1.cell 1
  have hc12 := hk1.cell 2
  simp at hc10 hc11 hc12
  have HK1 := Lib.hid hk1
  have hBW1 : B ≤ W1.heap.size := Nat.le_trans hB HB1.out.size
  clear hk1 HR HB
  go_wp2_with fail
  refine (Hhph2.out _).mono ?_
  rintro e w' ⟨rfl, hw⟩
  rw [hw]
  clear hw w'
  go_wp2_with fail
  refine (Hhph3.out _).mono ?_
  rintro e w' ⟨rfl, hw⟩
  rw [hw]
  clear hw w'
  go_wp2_with fail
  refine (remark_bad s a _ hs hp2 (HXX.out.below HB1.out) H4.out).mono ?_
  rintro e w' ⟨rfl, rfl⟩
  go_wp2
  exact ⟨rfl, rfl, HB1.out.mono hB⟩

set_option maxRecDepth 100000 in
set_option maxHeartbeats 1000000 in
theorem readV_esc (k1 k2 k3 : Value) (s : ByteArray) (a : Nat) (l : List Tk) (v : Value) (w : World) (B : Nat) (hB : B ≤ w.heap.size) (hK1 : Kd w k1 kBl) (hl : l.length ≤ 100000) (hr : w.ownsRow B 23 3 v l.length (cs l))
    (hs : s.size ≤ 100000) (ha : a < s.size) (c : UInt8) (hc : atB s a = (c.toNat : Int)) (h1 : kBl c = false) (h2 : Lib.hasPrefix (s.data.toList.drop a) [47, 47] = false) (h3 : Lib.hasPrefix (s.data.toList.drop a) [47, 42] = false) (h4 : ((c.toNat : Int) == 92) = true) (h5 : skip (isIn 33 126) s (a + 1) ≠ a + 1) :
    Calls Tryd.prog 121 #[.agg #[k1, k2, k3], .string s, .int .i64 (a : Int), v] w (Told B w (l ++ [⟨2, s.extract (a + 1) (skip (isIn 33 126) s (a + 1)), a⟩]) (skip (isIn 33 126) s (a + 1))) := by
  obtain ⟨i0, hi, hz0, hz1, hz2⟩ := info_parts info42
  have H5 := Lib.hid h5
  clear h5
  have hix := atB_run s a ha _ hc
  have ha' : (a : Int) ≤ 100000 := by omega
  have hai : (a : Int) ≤ (s.size : Int) := by omega
  have hph2 := Tryd.strings_HasPrefix (s.extract a s.size) ⟨#[47, 47]⟩
  rw [ext1, show (⟨#[47, 47]⟩ : ByteArray).data.toList = [47, 47] from rfl, h2] at hph2
  have Hhph2 := Lib.hid hph2
  clear hph2
  have hph3 := Tryd.strings_HasPrefix (s.extract a s.size) ⟨#[47, 42]⟩
  rw [ext1, show (⟨#[47, 42]⟩ : ByteArray).data.toList = [47, 42] from rfl, h3] at hph3
  have Hhph3 := Lib.hid hph3
  clear hph3
  have HKK1 := Lib.hid hK1
  obtain ⟨g1, lb1, rfl, eg1, hcl1⟩ := hK1
  have HC1 := Lib.hid fun W hb => hcl1 W hb c
  rw [h1] at HC1
  clear hcl1
  have HR := Lib.hid hr
  have HB := Lib.hid ((Below.refl _ w).alloc (Nat.le_refl _) (.cells #[.func (.func g1) #[] lb1, k2, k3] 72))
  clear hc hr
  go_enter Tryd.func121, Tryd.ntmps121
  go_wp2_with fail
  go_quiet (exact Calls.quiet_of_same ((HC1.out _ (below_drewN HB.out _)).mono fun e w' h => ⟨h.1, h.2.symm⟩))
  have hk1 : Blk ((w.alloc (.cells #[.func (.func g1) #[] lb1, k2, k3] 72)).drewN nq) w.heap.size #[.func (.func g1) #[] lb1, k2, k3] 72 := Blk.new w _ _
  have hr1 : ((w.alloc (.cells #[.func (.func g1) #[] lb1, k2, k3] 72)).drewN nq).ownsRow B 23 3 v l.length (cs l) := HR.out.alloc _
  have HB1 := Lib.hid (below_drewN HB.out nq)
  generalize (w.alloc (.cells #[.func (.func g1) #[] lb1, k2, k3] 72)).drewN nq = W1 at hk1 hr1 HB1
  have hc10 := hk1.cell 0
  have hc11 := hk1.cell 1
  have hc12 := hk1.cell 2
  simp at hc10 hc11 hc12
  have HK1 := Lib.hid hk1
  have hBW1 : B ≤ W1.heap.size := Nat.le_trans hB HB1.out.size
  clear hk1 HR HB
  go_wp2_with fail
  refine (Hhph2.out _).mono ?_
  rintro e w' ⟨rfl, hw⟩
  rw [hw]
  clear hw w'
  go_wp2_with fail
  refine (Hhph3.out _).mono ?_
  rintro e w' ⟨rfl, hw⟩
  rw [hw]
  clear hw w'
  have hsk1 := skip_ge (isIn 33 126) s (a + 1)
  have hsk2 := skip_le (isIn 33 126) s (a + 1) (by omega)
  have hbe := fun w => behind_any _ (isIn 33 126) s (a + 1) w (by omega) (by omega) (kd_seen w)
  rw [show ((a + 1 : Nat) : Int) = (a : Int) + 1 from by omega] at hbe
  have HBE := Lib.hid hbe
  obtain ⟨to, hto⟩ : ∃ to, skip (isIn 33 126) s (a + 1) = to := ⟨_, rfl⟩
  rw [hto] at hsk1 hsk2 HBE
  have HTO := Lib.hid hto
  clear hbe hto
  have hne : ((to : Int) == (a : Int) + 1) = false := by
    have h1 := H5.out
    have h2 := HTO.out
    rw [beq_eq_false_iff_ne]; omega
  have hsl := slice_eq s (a + 1) to (by omega) hsk2
  rw [show ((a + 1 : Nat) : Int) = (a : Int) + 1 from by omega] at hsl
  go_wp2_with fail
  refine (HBE.out _).mono ?_
  rintro e w' ⟨rfl, hw⟩
  rw [← hw]
  clear hw w'
  go_wp2_with (at_builtin; refine wpList_append_own _ rfl _ _ 36 rfl B 23 i0 (.agg #[.int .i64 0, .string ⟨#[]⟩, .int .i64 0]) 3 32 Tryd.underlying36 hi hz0 hz1 hz2 rfl (by decide) _ _ _ rfl (hr1.alloc _) ⟨W1.heap.size, 0, none⟩ 1 1 [.int .i64 2, .string (s.extract (a + 1) to), .int .i64 (a : Int)] rfl rfl (cell_three_new _ _ _ _ _) (fun x hx => by simp at hx; rcases hx with rfl | rfl | rfl <;> rfl) (by unfold maxLen; omega) (by omega) (by simp; omega) ?_; intro v' w1 hown' hgrow _)
  go_ret2
  rw [HTO.out]
  refine ⟨v', rfl, ?_, Below.grown ((HB1.out.mono hB).alloc hBW1 _) hgrow (by simp; omega) (fun j hj => (hr1.lt j hj).1)⟩
  rw [cs_append, List.length_append]
  exact hown'

set_option maxRecDepth 100000 in
set_option maxHeartbeats 1000000 in
theorem readV_escBad (k1 k2 k3 : Value) (s : ByteArray) (a : Nat) (l : List Tk) (v : Value) (w : World) (B : Nat) (hB : B ≤ w.heap.size) (hK1 : Kd w k1 kBl) (hr : w.ownsRow B 23 3 v l.length (cs l))
    (hs : s.size ≤ 100000) (ha : a < s.size) (c : UInt8) (hc : atB s a = (c.toNat : Int)) (h1 : kBl c = false) (h2 : Lib.hasPrefix (s.data.toList.drop a) [47, 47] = false) (h3 : Lib.hasPrefix (s.data.toList.drop a) [47, 42] = false) (h4 : ((c.toNat : Int) == 92) = true) (h5 : skip (isIn 33 126) s (a + 1) = a + 1) :
    Calls Tryd.prog 121 #[.agg #[k1, k2, k3], .string s, .int .i64 (a : Int), v] w (fun e w' => e = .panicked [{ v := .iface 84 (.agg #[.int .i64 (a : Int)]), recovered := false }] ∧ Below B w w') := by
  have H5 := Lib.hid h5
  clear h5
  have hix := atB_run s a ha _ hc
  have ha' : (a : Int) ≤ 100000 := by omega
  have hai : (a : Int) ≤ (s.size : Int) := by omega
  have hph2 := Tryd.strings_HasPrefix (s.extract a s.size) ⟨#[47, 47]⟩
  rw [ext1, show (⟨#[47, 47]⟩ : ByteArray).data.toList = [47, 47] from rfl, h2] at hph2
  have Hhph2 := Lib.hid hph2
  clear hph2
  have hph3 := Tryd.strings_HasPrefix (s.extract a s.size) ⟨#[47, 42]⟩
  rw [ext1, show (⟨#[47, 42]⟩ : ByteArray).data.toList = [47, 42] from rfl, h3] at hph3
  have Hhph3 := Lib.hid hph3
  clear hph3
  have HKK1 := Lib.hid hK1
  obtain ⟨g1, lb1, rfl, eg1, hcl1⟩ := hK1
  have HC1 := Lib.hid fun W hb => hcl1 W hb c
  rw [h1] at HC1
  clear hcl1
  have HR := Lib.hid hr
  have HB := Lib.hid ((Below.refl _ w).alloc (Nat.le_refl _) (.cells #[.func (.func g1) #[] lb1, k2, k3] 72))
  clear hc hr
  go_enter Tryd.func121, Tryd.ntmps121
  go_wp2_with fail
  go_quiet (exact Calls.quiet_of_same ((HC1.out _ (below_drewN HB.out _)).mono fun e w' h => ⟨h.1, h.2.symm⟩))
  have hk1 : Blk ((w.alloc (.cells #[.func (.func g1) #[] lb1, k2, k3] 72)).drewN nq) w.heap.size #[.func (.func g1) #[] lb1, k2, k3] 72 := Blk.new w _ _
  have hr1 : ((w.alloc (.cells #[.func (.func g1) #[] lb1, k2, k3] 72)).drewN nq).ownsRow B 23 3 v l.length (cs l) := HR.out.alloc _
  have HB1 := Lib.hid (below_drewN HB.out nq)
  generalize (w.alloc (.cells #[.func (.func g1) #[] lb1, k2, k3] 72)).drewN nq = W1 at hk1 hr1 HB1
  have hc10 := hk1.cell 0
  have hc11 := hk1.cell 1
  have hc12 := hk1.cell 2
  simp at hc10 hc11 hc12
  have HK1 := Lib.hid hk1
  have hBW1 : B ≤ W1.heap.size := Nat.le_trans hB HB1.out.size
  clear hk1 HR HB
  go_wp2_with fail
  refine (Hhph2.out _).mono ?_
  rintro e w' ⟨rfl, hw⟩
  rw [hw]
  clear hw w'
  go_wp2_with fail
  refine (Hhph3.out _).mono ?_
  rintro e w' ⟨rfl, hw⟩
  rw [hw]
  clear hw w'
  have hsk1 := skip_ge (isIn 33 126) s (a + 1)
  have hsk2 := skip_le (isIn 33 126) s (a + 1) (by omega)
  have hbe := fun w => behind_any _ (isIn 33 126) s (a + 1) w (by omega) (by omega) (kd_seen w)
  rw [show ((a + 1 : Nat) : Int) = (a : Int) + 1 from by omega] at hbe
  have HBE := Lib.hid hbe
  obtain ⟨to, hto⟩ : ∃ to, skip (isIn 33 126) s (a + 1) = to := ⟨_, rfl⟩
  rw [hto] at hsk1 hsk2 HBE
  have HTO := Lib.hid hto
  clear hbe hto
  have hne : (to : Int) = (a : Int) + 1 := by
    have h1 := H5.out
    have h2 := HTO.out
    omega
  have HNE := Lib.hid hne
  clear hne
  go_wp2_with fail
  refine (HBE.out _).mono ?_
  rintro e w' ⟨rfl, hw⟩
  rw [← hw]
  clear hw w'
  rw [HNE.out]
  go_wp2
  exact ⟨rfl, rfl, HB1.out.mono hB⟩

set_option maxRecDepth 100000 in
set_option maxHeartbeats 1000000 in
theorem readV_mark (k1 k2 k3 : Value) (s : ByteArray) (a : Nat) (l : List Tk) (v : Value) (w : World) (B : Nat) (hB : B ≤ w.heap.size) (hK1 : Kd w k1 kBl) (hK2 : Kd w k2 mV) (hl : l.length ≤ 100000) (hr : w.ownsRow B 23 3 v l.length (cs l))
    (hs : s.size ≤ 100000) (ha : a < s.size) (c : UInt8) (hc : atB s a = (c.toNat : Int)) (h1 : kBl c = false) (h2 : Lib.hasPrefix (s.data.toList.drop a) [47, 47] = false) (h3 : Lib.hasPrefix (s.data.toList.drop a) [47, 42] = false) (h4 : ((c.toNat : Int) == 92) = false) (h5 : mV c = true) :
    Calls Tryd.prog 121 #[.agg #[k1, k2, k3], .string s, .int .i64 (a : Int), v] w (Told B w (l ++ [⟨1, s.extract a (a + 1), a⟩]) (a + 1)) := by
  obtain ⟨i0, hi, hz0, hz1, hz2⟩ := info_parts info42
  have hsl := slice_one s a ha
  have hix := atB_run s a ha _ hc
  have ha' : (a : Int) ≤ 100000 := by omega
  have hai : (a : Int) ≤ (s.size : Int) := by omega
  have hph2 := Tryd.strings_HasPrefix (s.extract a s.size) ⟨#[47, 47]⟩
  rw [ext1, show (⟨#[47, 47]⟩ : ByteArray).data.toList = [47, 47] from rfl, h2] at hph2
  have Hhph2 := Lib.hid hph2
  clear hph2
  have hph3 := Tryd.strings_HasPrefix (s.extract a s.size) ⟨#[47, 42]⟩
  rw [ext1, show (⟨#[47, 42]⟩ : ByteArray).data.toList = [47, 42] from rfl, h3] at hph3
  have Hhph3 := Lib.hid hph3
  clear hph3
  have HKK1 := Lib.hid hK1
  obtain ⟨g1, lb1, rfl, eg1, hcl1⟩ := hK1
  have HC1 := Lib.hid fun W hb => hcl1 W hb c
  rw [h1] at HC1
  clear hcl1
  have HKK2 := Lib.hid hK2
  obtain ⟨g2, lb2, rfl, eg2, hcl2⟩ := hK2
  have HC2 := Lib.hid fun W hb => hcl2 W hb c
  rw [h5] at HC2
  clear hcl2
  have HR := Lib.hid hr
  have HB := Lib.hid ((Below.refl _ w).alloc (Nat.le_refl _) (.cells #[.func (.func g1) #[] lb1, .func (.func g2) #[] lb2, k3] 72))
  clear hc hr
  go_enter Tryd.func121, Tryd.ntmps121
  go_wp2_with fail
  go_quiet (exact Calls.quiet_of_same ((HC1.out _ (below_drewN HB.out _)).mono fun e w' h => ⟨h.1, h.2.symm⟩))
  have hk1 : Blk ((w.alloc (.cells #[.func (.func g1) #[] lb1, .func (.func g2) #[] lb2, k3] 72)).drewN nq) w.heap.size #[.func (.func g1) #[] lb1, .func (.func g2) #[] lb2, k3] 72 := Blk.new w _ _
  have hr1 : ((w.alloc (.cells #[.func (.func g1) #[] lb1, .func (.func g2) #[] lb2, k3] 72)).drewN nq).ownsRow B 23 3 v l.length (cs l) := HR.out.alloc _
  have HB1 := Lib.hid (below_drewN HB.out nq)
  generalize (w.alloc (.cells #[.func (.func g1) #[] lb1, .func (.func g2) #[] lb2, k3] 72)).drewN nq = W1 at hk1 hr1 HB1
  have hc10 := hk1.cell 0
  have hc11 := hk1.cell 1
  have hc12 := hk1.cell 2
  simp at hc10 hc11 hc12
  have HK1 := Lib.hid hk1
  have hBW1 : B ≤ W1.heap.size := Nat.le_trans hB HB1.out.size
  clear hk1 HR HB
  go_wp2_with fail
  refine (Hhph2.out _).mono ?_
  rintro e w' ⟨rfl, hw⟩
  rw [hw]
  clear hw w'
  go_wp2_with fail
  refine (Hhph3.out _).mono ?_
  rintro e w' ⟨rfl, hw⟩
  rw [hw]
  clear hw w'
  go_wp2_with fail
  go_quiet (exact Calls.quiet_of_same ((HC2.out _ (below_drewN HB1.out _)).mono fun e w' h => ⟨h.1, h.2.symm⟩))
  have hk2 : Blk (W1.drewN nq) w.heap.size #[.func (.func g1) #[] lb1, .func (.func g2) #[] lb2, k3] 72 := HK1.out
  have hr2 : (W1.drewN nq).ownsRow B 23 3 v l.length (cs l) := hr1
  have HB2 := Lib.hid (below_drewN HB1.out nq)
  clear hc10 hc11 hc12 hr1 hBW1
  generalize W1.drewN nq = W2 at hk2 hr2 HB2
  have hc20 := hk2.cell 0
  have hc21 := hk2.cell 1
  have hc22 := hk2.cell 2
  simp at hc20 hc21 hc22
  have HK2 := Lib.hid hk2
  clear hk2
  have hBW2 : B ≤ W2.heap.size := Nat.le_trans hB HB2.out.size
  go_wp2_with (at_builtin; refine wpList_append_own _ rfl _ _ 36 rfl B 23 i0 (.agg #[.int .i64 0, .string ⟨#[]⟩, .int .i64 0]) 3 32 Tryd.underlying36 hi hz0 hz1 hz2 rfl (by decide) _ _ _ rfl (hr2.alloc _) ⟨W2.heap.size, 0, none⟩ 1 1 [.int .i64 1, .string (s.extract a (a + 1)), .int .i64 (a : Int)] rfl rfl (cell_three_new _ _ _ _ _) (fun x hx => by simp at hx; rcases hx with rfl | rfl | rfl <;> rfl) (by unfold maxLen; omega) (by omega) (by simp; omega) ?_; intro v' w1 hown' hgrow _)
  go_ret2
  refine ⟨v', by push_cast; rfl, ?_, Below.grown ((HB2.out.mono hB).alloc hBW2 _) hgrow (by simp; omega) (fun j hj => (hr2.lt j hj).1)⟩
  rw [cs_append, List.length_append]
  exact hown'

set_option maxRecDepth 100000 in
set_option maxHeartbeats 1000000 in
theorem readV_word (k1 k2 k3 : Value) (s : ByteArray) (a : Nat) (l : List Tk) (v : Value) (w : World) (B : Nat) (hB : B ≤ w.heap.size) (hK1 : Kd w k1 kBl) (hK2 : Kd w k2 mV) (hK3 : Kd w k3 wV) (hl : l.length ≤ 100000) (hr : w.ownsRow B 23 3 v l.length (cs l))
    (hs : s.size ≤ 100000) (ha : a < s.size) (c : UInt8) (hc : atB s a = (c.toNat : Int)) (h1 : kBl c = false) (h2 : Lib.hasPrefix (s.data.toList.drop a) [47, 47] = false) (h3 : Lib.hasPrefix (s.data.toList.drop a) [47, 42] = false) (h4 : ((c.toNat : Int) == 92) = false) (h5 : mV c = false) (h6 : wV c = true) :
    Calls Tryd.prog 121 #[.agg #[k1, k2, k3], .string s, .int .i64 (a : Int), v] w (Told B w (l ++ [⟨0, s.extract a (skip wV s a), a⟩]) (skip wV s a)) := by
  obtain ⟨i0, hi, hz0, hz1, hz2⟩ := info_parts info42
  have hix := atB_run s a ha _ hc
  have ha' : (a : Int) ≤ 100000 := by omega
  have hai : (a : Int) ≤ (s.size : Int) := by omega
  have hph2 := Tryd.strings_HasPrefix (s.extract a s.size) ⟨#[47, 47]⟩
  rw [ext1, show (⟨#[47, 47]⟩ : ByteArray).data.toList = [47, 47] from rfl, h2] at hph2
  have Hhph2 := Lib.hid hph2
  clear hph2
  have hph3 := Tryd.strings_HasPrefix (s.extract a s.size) ⟨#[47, 42]⟩
  rw [ext1, show (⟨#[47, 42]⟩ : ByteArray).data.toList = [47, 42] from rfl, h3] at hph3
  have Hhph3 := Lib.hid hph3
  clear hph3
  have HKK1 := Lib.hid hK1
  obtain ⟨g1, lb1, rfl, eg1, hcl1⟩ := hK1
  have HC1 := Lib.hid fun W hb => hcl1 W hb c
  rw [h1] at HC1
  clear hcl1
  have HKK2 := Lib.hid hK2
  obtain ⟨g2, lb2, rfl, eg2, hcl2⟩ := hK2
  have HC2 := Lib.hid fun W hb => hcl2 W hb c
  rw [h5] at HC2
  clear hcl2
  have HKK3 := Lib.hid hK3
  obtain ⟨g3, lb3, rfl, eg3, hcl3⟩ := hK3
  have HC3 := Lib.hid fun W hb => hcl3 W hb c
  rw [h6] at HC3
  clear hcl3
  have HR := Lib.hid hr
  have HB := Lib.hid ((Below.refl _ w).alloc (Nat.le_refl _) (.cells #[.func (.func g1) #[] lb1, .func (.func g2) #[] lb2, .func (.func g3) #[] lb3] 72))
  clear hc hr
  go_enter Tryd.func121, Tryd.ntmps121
  go_wp2_with fail
  go_quiet (exact Calls.quiet_of_same ((HC1.out _ (below_drewN HB.out _)).mono fun e w' h => ⟨h.1, h.2.symm⟩))
  have hk1 : Blk ((w.alloc (.cells #[.func (.func g1) #[] lb1, .func (.func g2) #[] lb2, .func (.func g3) #[] lb3] 72)).drewN nq) w.heap.size #[.func (.func g1) #[] lb1, .func (.func g2) #[] lb2, .func (.func g3) #[] lb3] 72 := Blk.new w _ _
  have hr1 : ((w.alloc (.cells #[.func (.func g1) #[] lb1, .func (.func g2) #[] lb2, .func (.func g3) #[] lb3] 72)).drewN nq).ownsRow B 23 3 v l.length (cs l) := HR.out.alloc _
  have HB1 := Lib.hid (below_drewN HB.out nq)
  generalize (w.alloc (.cells #[.func (.func g1) #[] lb1, .func (.func g2) #[] lb2, .func (.func g3) #[] lb3] 72)).drewN nq = W1 at hk1 hr1 HB1
  have hc10 := hk1.cell 0
  have hc11 := hk1.cell 1
  have hc12 := hk1.cell 2
  simp at hc10 hc11 hc12
  have HK1 := Lib.hid hk1
  have hBW1 : B ≤ W1.heap.size := Nat.le_trans hB HB1.out.size
  clear hk1 HR HB
  go_wp2_with fail
  refine (Hhph2.out _).mono ?_
  rintro e w' ⟨rfl, hw⟩
  rw [hw]
  clear hw w'
  go_wp2_with fail
  refine (Hhph3.out _).mono ?_
  rintro e w' ⟨rfl, hw⟩
  rw [hw]
  clear hw w'
  go_wp2_with fail
  go_quiet (exact Calls.quiet_of_same ((HC2.out _ (below_drewN HB1.out _)).mono fun e w' h => ⟨h.1, h.2.symm⟩))
  have hk2 : Blk (W1.drewN nq) w.heap.size #[.func (.func g1) #[] lb1, .func (.func g2) #[] lb2, .func (.func g3) #[] lb3] 72 := HK1.out
  have hr2 : (W1.drewN nq).ownsRow B 23 3 v l.length (cs l) := hr1
  have HB2 := Lib.hid (below_drewN HB1.out nq)
  clear hc10 hc11 hc12 hr1 hBW1
  generalize W1.drewN nq = W2 at hk2 hr2 HB2
  have hc20 := hk2.cell 0
  have hc21 := hk2.cell 1
  have hc22 := hk2.cell 2
  simp at hc20 hc21 hc22
  have HK2 := Lib.hid hk2
  clear hk2
  have hBW2 : B ≤ W2.heap.size := Nat.le_trans hB HB2.out.size
  go_wp2_with fail
  go_quiet (exact Calls.quiet_of_same ((HC3.out _ (below_drewN HB2.out _)).mono fun e w' h => ⟨h.1, h.2.symm⟩))
  have hk3 : Blk (W2.drewN nq) w.heap.size #[.func (.func g1) #[] lb1, .func (.func g2) #[] lb2, .func (.func g3) #[] lb3] 72 := HK2.out
  have hr3 : (W2.drewN nq).ownsRow B 23 3 v l.length (cs l) := hr2
  have HB3 := Lib.hid (below_drewN HB2.out nq)
  clear hc20 hc21 hc22 hr2 hBW2
  generalize W2.drewN nq = W3 at hk3 hr3 HB3
  have hc30 := hk3.cell 0
  have hc31 := hk3.cell 1
  have hc32 := hk3.cell 2
  simp at hc30 hc31 hc32
  have HK3 := Lib.hid hk3
  clear hk3
  have hBW3 : B ≤ W3.heap.size := Nat.le_trans hB HB3.out.size
  have hsk1 := skip_ge wV s a
  have hsk2 := skip_le wV s a (by omega)
  have hsl := slice_eq s a (skip wV s a) hsk1 hsk2
  obtain ⟨to, hto⟩ : ∃ to, skip wV s a = to := ⟨_, rfl⟩
  rw [hto] at hsk1 hsk2 hsl
  have HTO := Lib.hid hto
  clear hto
  go_wp2_with fail
  refine (behind_any _ wV s a W3 (by omega) (by omega) (HKK3.out.below HB3.out)).mono ?_
  rintro e w' ⟨rfl, rfl⟩
  rw [HTO.out]
  go_wp2_with (at_builtin; refine wpList_append_own _ rfl _ _ 36 rfl B 23 i0 (.agg #[.int .i64 0, .string ⟨#[]⟩, .int .i64 0]) 3 32 Tryd.underlying36 hi hz0 hz1 hz2 rfl (by decide) _ _ _ rfl (hr3.alloc _) ⟨W3.heap.size, 0, none⟩ 1 1 [.int .i64 0, .string (s.extract a to), .int .i64 (a : Int)] rfl rfl (cell_three_new _ _ _ _ _) (fun x hx => by simp at hx; rcases hx with rfl | rfl | rfl <;> rfl) (by unfold maxLen; omega) (by omega) (by simp; omega) ?_; intro v' w1 hown' hgrow _)
  go_ret2
  rw [HTO.out]
  refine ⟨v', rfl, ?_, Below.grown ((HB3.out.mono hB).alloc hBW3 _) hgrow (by simp; omega) (fun j hj => (hr3.lt j hj).1)⟩
  rw [cs_append, List.length_append]
  exact hown'

set_option maxRecDepth 100000 in
set_option maxHeartbeats 1000000 in
theorem readV_bad (k1 k2 k3 : Value) (s : ByteArray) (a : Nat) (l : List Tk) (v : Value) (w : World) (B : Nat) (hB : B ≤ w.heap.size) (hK1 : Kd w k1 kBl) (hK2 : Kd w k2 mV) (hK3 : Kd w k3 wV) (hr : w.ownsRow B 23 3 v l.length (cs l))
    (hs : s.size ≤ 100000) (ha : a < s.size) (c : UInt8) (hc : atB s a = (c.toNat : Int)) (h1 : kBl c = false) (h2 : Lib.hasPrefix (s.data.toList.drop a) [47, 47] = false) (h3 : Lib.hasPrefix (s.data.toList.drop a) [47, 42] = false) (h4 : ((c.toNat : Int) == 92) = false) (h5 : mV c = false) (h6 : wV c = false) :
    Calls Tryd.prog 121 #[.agg #[k1, k2, k3], .string s, .int .i64 (a : Int), v] w (fun e w' => e = .panicked [{ v := .iface 84 (.agg #[.int .i64 (a : Int)]), recovered := false }] ∧ Below B w w') := by
  have hix := atB_run s a ha _ hc
  have ha' : (a : Int) ≤ 100000 := by omega
  have hai : (a : Int) ≤ (s.size : Int) := by omega
  have hph2 := Tryd.strings_HasPrefix (s.extract a s.size) ⟨#[47, 47]⟩
  rw [ext1, show (⟨#[47, 47]⟩ : ByteArray).data.toList = [47, 47] from rfl, h2] at hph2
  have Hhph2 := Lib.hid hph2
  clear hph2
  have hph3 := Tryd.strings_HasPrefix (s.extract a s.size) ⟨#[47, 42]⟩
  rw [ext1, show (⟨#[47, 42]⟩ : ByteArray).data.toList = [47, 42] from rfl, h3] at hph3
  have Hhph3 := Lib.hid hph3
  clear hph3
  have HKK1 := Lib.hid hK1
  obtain ⟨g1, lb1, rfl, eg1, hcl1⟩ := hK1
  have HC1 := Lib.hid fun W hb => hcl1 W hb c
  rw [h1] at HC1
  clear hcl1
  have HKK2 := Lib.hid hK2
  obtain ⟨g2, lb2, rfl, eg2, hcl2⟩ := hK2
  have HC2 := Lib.hid fun W hb => hcl2 W hb c
  rw [h5] at HC2
  clear hcl2
  have HKK3 := Lib.hid hK3
  obtain ⟨g3, lb3, rfl, eg3, hcl3⟩ := hK3
  have HC3 := Lib.hid fun W hb => hcl3 W hb c
  rw [h6] at HC3
  clear hcl3
  have HR := Lib.hid hr
  have HB := Lib.hid ((Below.refl _ w).alloc (Nat.le_refl _) (.cells #[.func (.func g1) #[] lb1, .func (.func g2) #[] lb2, .func (.func g3) #[] lb3] 72))
  clear hc hr
  go_enter Tryd.func121, Tryd.ntmps121
  go_wp2_with fail
  go_quiet (exact Calls.quiet_of_same ((HC1.out _ (below_drewN HB.out _)).mono fun e w' h => ⟨h.1, h.2.symm⟩))
  have hk1 : Blk ((w.alloc (.cells #[.func (.func g1) #[] lb1, .func (.func g2) #[] lb2, .func (.func g3) #[] lb3] 72)).drewN nq) w.heap.size #[.func (.func g1) #[] lb1, .func (.func g2) #[] lb2, .func (.func g3) #[] lb3] 72 := Blk.new w _ _
  have hr1 : ((w.alloc (.cells #[.func (.func g1) #[] lb1, .func (.func g2) #[] lb2, .func (.func g3) #[] lb3] 72)).drewN nq).ownsRow B 23 3 v l.length (cs l) := HR.out.alloc _
  have HB1 := Lib.hid (below_drewN HB.out nq)
  generalize (w.alloc (.cells #[.func (.func g1) #[] lb1, .func (.func g2) #[] lb2, .func (.func g3) #[] lb3] 72)).drewN nq = W1 at hk1 hr1 HB1
  have hc10 := hk1.cell 0
  have hc11 := hk1.cell 1
  have hc12 := hk1.cell 2
  simp at hc10 hc11 hc12
  have HK1 := Lib.hid hk1
  have hBW1 : B ≤ W1.heap.size := Nat.le_trans hB HB1.out.size
  clear hk1 HR HB
  go_wp2_with fail
  refine (Hhph2.out _).mono ?_
  rintro e w' ⟨rfl, hw⟩
  rw [hw]
  clear hw w'
  go_wp2_with fail
  refine (Hhph3.out _).mono ?_
  rintro e w' ⟨rfl, hw⟩
  rw [hw]
  clear hw w'
  go_wp2_with fail
  go_quiet (exact Calls.quiet_of_same ((HC2.out _ (below_drewN HB1.out _)).mono fun e w' h => ⟨h.1, h.2.symm⟩))
  have hk2 : Blk (W1.drewN nq) w.heap.size #[.func (.func g1) #[] lb1, .func (.func g2) #[] lb2, .func (.func g3) #[] lb3] 72 := HK1.out
  have hr2 : (W1.drewN nq).ownsRow B 23 3 v l.length (cs l) := hr1
  have HB2 := Lib.hid (below_drewN HB1.out nq)
  clear hc10 hc11 hc12 hr1 hBW1
  generalize W1.drewN nq = W2 at hk2 hr2 HB2
  have hc20 := hk2.cell 0
  have hc21 := hk2.cell 1
  have hc22 := hk2.cell 2
  simp at hc20 hc21 hc22
  have HK2 := Lib.hid hk2
  clear hk2
  have hBW2 : B ≤ W2.heap.size := Nat.le_trans hB HB2.out.size
  go_wp2_with fail
  go_quiet (exact Calls.quiet_of_same ((HC3.out _ (below_drewN HB2.out _)).mono fun e w' h => ⟨h.1, h.2.symm⟩))
  have hk3 : Blk (W2.drewN nq) w.heap.size #[.func (.func g1) #[] lb1, .func (.func g2) #[] lb2, .func (.func g3) #[] lb3] 72 := HK2.out
  have hr3 : (W2.drewN nq).ownsRow B 23 3 v l.length (cs l) := hr2
  have HB3 := Lib.hid (below_drewN HB2.out nq)
  clear hc20 hc21 hc22 hr2 hBW2
  generalize W2.drewN nq = W3 at hk3 hr3 HB3
  have hc30 := hk3.cell 0
  have hc31 := hk3.cell 1
  have hc32 := hk3.cell 2
  simp at hc30 hc31 hc32
  have HK3 := Lib.hid hk3
  clear hk3
  have hBW3 : B ≤ W3.heap.size := Nat.le_trans hB HB3.out.size
  go_wp2
  exact ⟨rfl, rfl, HB3.out.mono hB⟩

theorem readV_any (k1 k2 k3 : Value) (s : ByteArray) (a : Nat) (l : List Tk) (v : Value) (w : World) (B : Nat) (hB : B ≤ w.heap.size) (hX : HX w) (hK1 : Kd w k1 kBl) (hK2 : Kd w k2 mV) (hK3 : Kd w k3 wV) (hl : l.length ≤ 100000) (hr : w.ownsRow B 23 3 v l.length (cs l))
    (hs : s.size ≤ 100000) (ha : a < s.size) :
    Calls Tryd.prog 121 #[.agg #[k1, k2, k3], .string s, .int .i64 (a : Int), v] w (ToldO B w a (stepV s a l)) := by
  obtain ⟨c, hc, hcc⟩ := atB_byte s a ha
  unfold stepV
  rw [hcc]
  by_cases h1 : kBl c = true
  · rw [if_pos h1]; exact readV_blank k1 k2 k3 s a l v w B hB hK1 hr hs ha c hc h1
  rw [if_neg h1]
  have h1' : kBl c = false := by simpa using h1
  by_cases h2 : Lib.hasPrefix (s.data.toList.drop a) [47, 47] = true
  · rw [if_pos h2]; exact readV_line k1 k2 k3 s a l v w B hB hX hK1 hr hs ha c hc h1' h2
  rw [if_neg h2]
  have h2' : Lib.hasPrefix (s.data.toList.drop a) [47, 47] = false := by simpa using h2
  by_cases h3 : Lib.hasPrefix (s.data.toList.drop a) [47, 42] = true
  · rw [if_pos h3]
    by_cases h4 : upP s (a + 2) ⟨#[42, 47]⟩ = s.size
    · rw [if_pos h4]; exact readV_remarkBad k1 k2 k3 s a l v w B hB hX hK1 hr hs ha c hc h1' h2' h3 h4
    · rw [if_neg h4]; exact readV_remark k1 k2 k3 s a l v w B hB hX hK1 hr hs ha c hc h1' h2' h3 h4
  rw [if_neg h3]
  have h3' : Lib.hasPrefix (s.data.toList.drop a) [47, 42] = false := by simpa using h3
  by_cases h4 : atB s a = 92
  · rw [if_pos h4]
    have h4' : ((c.toNat : Int) == 92) = true := by rw [← hc, h4]; rfl
    by_cases h5 : skip (isIn 33 126) s (a + 1) = a + 1
    · rw [if_pos h5]; exact readV_escBad k1 k2 k3 s a l v w B hB hK1 hr hs ha c hc h1' h2' h3' h4' h5
    · rw [if_neg h5]; exact readV_esc k1 k2 k3 s a l v w B hB hK1 hl hr hs ha c hc h1' h2' h3' h4' h5
  rw [if_neg h4]
  have h4' : ((c.toNat : Int) == 92) = false := by rw [← hc, beq_eq_false_iff_ne]; exact h4
  by_cases h5 : mV c = true
  · rw [if_pos h5]; exact readV_mark k1 k2 k3 s a l v w B hB hK1 hK2 hl hr hs ha c hc h1' h2' h3' h4' h5
  rw [if_neg h5]
  have h5' : mV c = false := by simpa using h5
  by_cases h6 : wV c = true
  · rw [if_pos h6]; exact readV_word k1 k2 k3 s a l v w B hB hK1 hK2 hK3 hl hr hs ha c hc h1' h2' h3' h4' h5' h6
  · rw [if_neg h6]; exact readV_bad k1 k2 k3 s a l v w B hB hK1 hK2 hK3 hr hs ha c hc h1' h2' h3' h4' h5' (by simpa using h6)
end Go.Proofs.YtfljnhmpelpdaaaDoor.Tok
