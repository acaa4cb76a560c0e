/- digits: Get, lastGroup, getGroups, Undelta. -/
import Derived.Test.YtkemaaohmfdhbaaDoorGets
namespace Go.Proofs.YtkemaaohmfdhbaaDoor
open Go.RowKit

/-- three numbers -/
def three (r : Int × Int × Int) : Value := .tuple #[.int .i64 r.1, .int .i64 r.2.1, .int .i64 r.2.2]

theorem get_bad (s : ByteArray) (a : Int) (w : World) (hg : HG w) (h : ∀ w, Calls Tryd.prog 22 #[.string s, .int .i64 a] w fun e w' => e = .returned (.tuple #[.int .i64 0, .int .i64 0, wr 3]) ∧ w = w') :
    Calls Tryd.prog 12 #[.string s, .int .i64 a] w fun e w' => e = .returned (three (0, a, 3)) ∧ Below w.heap.size w w' := by
  have H := Lib.hid h
  have G := Lib.hid hg
  clear h hg
  go_enter Tryd.func12, Tryd.ntmps12
  go_wp2_with fail
  refine (H.out _).mono ?_
  rintro e w' ⟨rfl, rfl⟩
  go_wp2_with fail
  refine (number_wrong _ _ G.out).mono ?_
  rintro e w' ⟨rfl, hb⟩
  go_wp2
  go_ret3
  exact ⟨rfl, hb⟩
theorem get_good (s : ByteArray) (a n p : Int) (w : World) (h : ∀ w, Calls Tryd.prog 22 #[.string s, .int .i64 a] w fun e w' => e = .returned (.tuple #[.int .i64 n, .int .i64 p, .nilIface]) ∧ w = w') :
    Calls Tryd.prog 12 #[.string s, .int .i64 a] w fun e w' => e = .returned (three (n, p, 0)) ∧ Below w.heap.size w w' := by
  have H := Lib.hid h
  clear h
  go_enter Tryd.func12, Tryd.ntmps12
  go_wp2_with fail
  refine (H.out _).mono ?_
  rintro e w' ⟨rfl, rfl⟩
  go_wp2_with fail
  refine (number_nil _).mono ?_
  rintro e w' ⟨rfl, hb⟩
  go_wp2
  go_ret3
  exact ⟨rfl, hb⟩
theorem get_any (s : ByteArray) (a : Int) (w : World) (hs : s.size ≤ maxLen) (hg : HG w) :
    Calls Tryd.prog 12 #[.string s, .int .i64 a] w fun e w' => e = .returned (three (getR s.data.toList a)) ∧ Below w.heap.size w w' := by
  by_cases h0 : a < 0
  · rw [getR, if_pos (.inl h0)]
    exact get_bad s a w hg (fun w => getD_low s a w h0)
  · by_cases h1 : (s.size : Int) < a
    · rw [getR, if_pos (.inr (by simpa using h1))]
      exact get_bad s a w hg (fun w => getD_high s a w hs h1)
    · obtain ⟨k, rfl⟩ := Int.eq_ofNat_of_zero_le (show 0 ≤ a by omega)
      have hin := fun w => getD_in s k w hs (by omega)
      rw [getR, if_neg (by simp at h1 ⊢; omega), Int.toNat_natCast]
      cases hv : getV (s.data.toList.drop k) with
      | none => 
        rw [hv] at hin
        exact get_bad s _ w hg hin
      | some p =>
        obtain ⟨n, m⟩ := p
        rw [hv] at hin
        exact get_good s _ _ _ w hin

theorem last_low (s : ByteArray) (a : Int) (w : World) (h : a < 0) :
    Calls Tryd.prog 30 #[.string s, .int .i64 a] w fun e w' => e = .returned (.tuple #[.int .i64 0, wr 10]) ∧ w = w' := by
  go_enter Tryd.func30, Tryd.ntmps30
  go_wp2
  go_ret2
  exact ⟨rfl, rfl⟩

/-- what lastGroup tells -/
def lastOut (a : Nat) : Option Nat → Value
  | some e => .tuple #[.int .i64 ((a : Int) + (e : Int)), .nilIface]
  | none => .tuple #[.int .i64 0, wr 10]

set_option maxHeartbeats 1000000 in
theorem last_in (s : ByteArray) (a : Nat) (w : World) (hs : s.size ≤ maxLen) :
    Calls Tryd.prog 30 #[.string s, .int .i64 (a : Int)] w fun e w' => e = .returned (lastOut a (lastG (s.data.toList.drop a))) ∧ w = w' := by
  unfold maxLen at hs
  have h0 : decide ((a : Int) < 0) = false := decide_eq_false (by omega)
  go_enter Tryd.func30, Tryd.ntmps30
  go_wp2
  go_loop [6] (fun i => ∃ b : Nat, a ≤ b ∧ i = .int .i64 (b : Int) ∧ (a < b → b ≤ s.size) ∧ ∀ j, (h : j < b) → a ≤ j → (h' : j < s.size) → ¬ s[j].toNat < 128) (fun i => s.size - (intOf i).toNat)
  case atStart => exact ⟨a, Nat.le_refl _, rfl, fun h => absurd h (by omega), fun j h h' => absurd h (by omega)⟩
  case round =>
    obtain ⟨b, hk, rfl, hbs, hall⟩ := hrel
    have HA := Lib.hid hall
    have HK := Lib.hid hbs
    clear hall hbs
    by_cases hlt : b < s.size
    · obtain ⟨c, hc⟩ : ∃ c : Int, (s[b].toNat : Int) = c := ⟨_, rfl⟩
      have hc0 : 0 ≤ c := by omega
      have hix : ∀ wx : World, (Instr.index 9 (.string s) (.int .i64 (b : Int))).run Tryd.prog wx = .ok (.int .u8 c) wx := fun wx => by
        rw [run_index_string wx 9 s .i64 (b : Int) Tryd.underlying9]
        simp [hlt, hc]
      have HC := Lib.hid hc
      clear hc
      go_wp2
      · have hd : c < 128 := by assumption
        have hcc := HC.out
        have hr : lastG (s.data.toList.drop a) = some (b - a) := by
          refine lastG_some _ (b - a) (by simp; omega) ?_ (fun j hj => ?_)
          · rw [List.getElem_drop]
            have : s.data.toList[a + (b - a)]'(by simp; omega) = s[b] := by
              simp only [show a + (b - a) = b from by omega]; rfl
            rw [this]; omega
          · rw [List.getElem_drop]
            exact HA.out (a + j) (by omega) (by omega) (by omega)
        go_ret2
        rw [hr]
        refine ⟨?_, rfl⟩
        show Ending.returned (.tuple #[.int .i64 (b : Int), .nilIface]) = .returned (.tuple #[.int .i64 ((a : Int) + ((b - a : Nat) : Int)), .nilIface])
        rw [show (a : Int) + ((b - a : Nat) : Int) = (b : Int) from by omega]
      · have hd : (128 : Int) ≤ c := by assumption
        have hcc := HC.out
        go_round
        case rel =>
          refine ⟨b + 1, by omega, by go_num, fun _ => by omega, fun j h h1 h' => ?_⟩
          by_cases hj : j < b
          · exact HA.out j hj h1 h'
          · have : j = b := by omega
            subst this
            omega
        case measure => simp [intOf]; omega
    · have hr : lastG (s.data.toList.drop a) = none := by
        refine lastG_none _ (fun c hc => ?_)
        obtain ⟨j, hj, rfl⟩ := List.getElem_of_mem hc
        rw [List.getElem_drop]
        simp at hj
        exact HA.out (a + j) (by omega) (by omega) (by omega)
      have HR := Lib.hid hr
      clear hr
      go_wp2
      go_ret2
      rw [HR.out]
      exact ⟨rfl, rfl⟩

theorem ix_any (s : ByteArray) (b : Nat) (h : b < s.size) : ∃ c : Int, (s[b].toNat : Int) = c ∧ 0 ≤ c ∧ c ≤ 255 ∧ ∀ wx : World, (Instr.index 9 (.string s) (.int .i64 (b : Int))).run Tryd.prog wx = .ok (.int .u8 c) wx := by
  have hlt := UInt8.toNat_lt s[b]
  refine ⟨_, rfl, by omega, by omega, fun wx => ?_⟩
  rw [run_index_string wx 9 s .i64 (b : Int) Tryd.underlying9]
  simp [h]

/-- what getGroups tells -/
def grpOut (a : Nat) (r : Nat × Nat × Int) : Value := if r.2.2 = 0 then .tuple #[.int .i64 r.1, .int .i64 ((a : Int) + r.2.1), .nilIface] else .tuple #[.int .i64 0, .int .i64 0, wr r.2.2]

theorem grpD_low (s : ByteArray) (a : Int) (w : World) (h : a < 0) :
    Calls Tryd.prog 25 #[.string s, .int .i64 a] w fun e w' => e = .returned (.tuple #[.int .i64 0, .int .i64 0, wr 10]) ∧ w = w' := by
  go_enter Tryd.func25, Tryd.ntmps25
  go_wp2_with fail
  refine (last_low s a _ h).mono ?_
  rintro e w' ⟨rfl, rfl⟩
  go_wp2
  go_ret3
  exact ⟨rfl, rfl⟩

theorem grpD_none (s : ByteArray) (a : Nat) (w : World) (hl : ∀ w, Calls Tryd.prog 30 #[.string s, .int .i64 (a : Int)] w fun e w' => e = .returned (.tuple #[.int .i64 0, wr 10]) ∧ w = w') :
    Calls Tryd.prog 25 #[.string s, .int .i64 (a : Int)] w fun e w' => e = .returned (.tuple #[.int .i64 0, .int .i64 0, wr 10]) ∧ w = w' := by
  have H := Lib.hid hl
  clear hl
  go_enter Tryd.func25, Tryd.ntmps25
  go_wp2_with fail
  refine (H.out _).mono ?_
  rintro e w' ⟨rfl, rfl⟩
  go_wp2
  go_ret3
  exact ⟨rfl, rfl⟩

theorem grpD_long (s : ByteArray) (a e : Nat) (w : World) (hs : a + e < s.size) (hm : s.size ≤ maxLen) (h5 : 5 ≤ e) (hl : ∀ w, Calls Tryd.prog 30 #[.string s, .int .i64 (a : Int)] w fun en w' => en = .returned (.tuple #[.int .i64 ((a : Int) + (e : Int)), .nilIface]) ∧ w = w') :
    Calls Tryd.prog 25 #[.string s, .int .i64 (a : Int)] w fun en w' => en = .returned (.tuple #[.int .i64 0, .int .i64 0, wr 3]) ∧ w = w' := by
  unfold maxLen at hm
  have H := Lib.hid hl
  clear hl
  go_enter Tryd.func25, Tryd.ntmps25
  go_wp2_with fail
  refine (H.out _).mono ?_
  rintro en w' ⟨rfl, rfl⟩
  go_wp2
  go_ret3
  exact ⟨rfl, rfl⟩

theorem ix_int (s : ByteArray) (b : Int) (h0 : 0 ≤ b) (h : b < s.size) : ∃ c : Int, ((s[b.toNat]'(by omega)).toNat : Int) = c ∧ 0 ≤ c ∧ c ≤ 255 ∧ ∀ wx : World, (Instr.index 9 (.string s) (.int .i64 b)).run Tryd.prog wx = .ok (.int .u8 c) wx := by
  have hlt := UInt8.toNat_lt (s[b.toNat]'(by omega))
  refine ⟨_, rfl, by omega, by omega, fun wx => ?_⟩
  rw [run_index_string wx 9 s .i64 b Tryd.underlying9, dif_pos ⟨h0, h⟩]

theorem grpD_zero (s : ByteArray) (a e : Nat) (w : World) (hs : a + e < s.size) (h5 : e < 5) (h0 : 0 < e) (hz : s[a + e].toNat = 0) (hl : ∀ w, Calls Tryd.prog 30 #[.string s, .int .i64 (a : Int)] w fun en w' => en = .returned (.tuple #[.int .i64 ((a : Int) + (e : Int)), .nilIface]) ∧ w = w') :
    Calls Tryd.prog 25 #[.string s, .int .i64 (a : Int)] w fun en w' => en = .returned (.tuple #[.int .i64 0, .int .i64 0, wr 3]) ∧ w = w' := by
  have H := Lib.hid hl
  obtain ⟨c, hc, hc0, hc1, hix⟩ := ix_int s ((a : Int) + (e : Int)) (by omega) (by omega)
  have hc' : c = 0 := by
    rw [← hc]
    have : ((a : Int) + (e : Int)).toNat = a + e := by omega
    simp only [this]; omega
  subst hc'
  clear hl hc hz hc0 hc1
  go_enter Tryd.func25, Tryd.ntmps25
  go_wp2_with fail
  refine (H.out _).mono ?_
  rintro en w' ⟨rfl, rfl⟩
  go_wp2
  go_ret3
  exact ⟨rfl, rfl⟩

theorem gval_drop (G : List UInt8) (k : Nat) (h : k < G.length) : gval (G.drop k) = 128 * gval (G.drop (k + 1)) + G[k].toNat % 128 := by
  rw [List.drop_eq_getElem_cons h, gval]

/-- behind the loop -/
def grpFin (G : List UInt8) (e : Nat) : Nat × Nat × Int := if most < gval G then (0, 0, 3) else (gval G, e + 1, 0)

set_option maxHeartbeats 2000000 in
theorem grpD_loop (s : ByteArray) (a e : Nat) (w : World) (hs : a + e < s.size) (hm : s.size ≤ maxLen) (h5 : e < 5) (hz : e = 0 ∨ s[a + e].toNat ≠ 0) (hl : ∀ w, Calls Tryd.prog 30 #[.string s, .int .i64 (a : Int)] w fun en w' => en = .returned (.tuple #[.int .i64 ((a : Int) + (e : Int)), .nilIface]) ∧ w = w') :
    Calls Tryd.prog 25 #[.string s, .int .i64 (a : Int)] w fun en w' => en = .returned (grpOut a (grpFin ((s.data.toList.drop a).take (e + 1)) e)) ∧ w = w' := by
  unfold maxLen at hm
  have H := Lib.hid hl
  clear hl
  generalize hG : (s.data.toList.drop a).take (e + 1) = G
  have hat : ∀ j, (h : j ≤ e) → G[j]? = some (s[a + j]'(by omega)) := by
    intro j h
    subst hG
    rw [List.getElem?_take_of_lt (by omega), List.getElem?_drop, List.getElem?_eq_getElem (by simp; omega)]; rfl
  have hlen : G.length = e + 1 := by rw [← hG, List.length_take]; simp; omega
  have hbd : ∀ k, gval (G.drop k) ≤ 34359738368 := by
    intro k
    have h1 := gval_lt (G.drop k)
    have h2 : (G.drop k).length ≤ 5 := by rw [List.length_drop]; omega
    have h3 : 128 ^ (G.drop k).length ≤ 128 ^ 5 := Nat.pow_le_pow_right (by omega) h2
    omega
  obtain ⟨u, hu⟩ : ∃ u : Int, (a : Int) + (e : Int) = u := ⟨_, rfl⟩
  have hcase : decide ((a : Int) < u) = false ∨ (∃ c : Int, (a : Int) < u ∧ (c == 0) = false ∧ ∀ wx : World, (Instr.index 9 (.string s) (.int .i64 u)).run Tryd.prog wx = .ok (.int .u8 c) wx) := by
    by_cases he : e = 0
    · exact .inl (decide_eq_false (by omega))
    · obtain ⟨c, hc, hc0, hc1, hix⟩ := ix_int s u (by omega) (by omega)
      refine .inr ⟨c, by omega, ?_, hix⟩
      rw [beq_eq_false_iff_ne]
      rintro rfl
      have : u.toNat = a + e := by omega
      simp only [this] at hc
      rcases hz with h | h
      · exact he h
      · omega
  have H' : Hid (∀ w, Calls Tryd.prog 30 #[.string s, .int .i64 (a : Int)] w fun en w' => en = .returned (.tuple #[.int .i64 u, .nilIface]) ∧ w = w') := by rw [← hu]; exact H.out
  have u1 : (a : Int) ≤ u := by omega
  have u2 : u < (s.size : Int) := by omega
  have u3 : u - (a : Int) < 5 := by omega
  have u4 : decide ((5 : Int) ≤ u - (a : Int)) = false := decide_eq_false (by omega)
  have HU := Lib.hid hu
  have HAT := Lib.hid hat
  have HB := Lib.hid hbd
  have HL := Lib.hid hlen
  clear hz hG hat hbd hlen hu H
  rcases hcase with hce | ⟨c, hce, hcz, hix⟩
  all_goals
    go_enter Tryd.func25, Tryd.ntmps25
    go_wp2_with fail
    refine (H'.out _).mono ?_
    rintro en w' ⟨rfl, rfl⟩
    go_wp2
    go_loop [9, 10] (fun n i => ∃ (k : Nat) (b : Int), k ≤ e + 1 ∧ Hid (b = (a : Int) + (k : Int) - 1) ∧ (a : Int) - 1 ≤ b ∧ b ≤ u ∧ i = .int .i64 b ∧ n = .int .i64 (gval (G.drop k))) (fun _ i => (intOf i - (a : Int) + 1).toNat)
    case atStart => exact ⟨e + 1, u, Nat.le_refl _, by have := HU.out; exact Lib.hid (by push_cast; omega), by omega, by omega, rfl, by rw [List.drop_of_length_le (by rw [HL.out]; exact Nat.le_refl _)]; rfl⟩
    case round =>
      obtain ⟨k, b, hk, hbk, hb1, hb2, rfl, rfl⟩ := hrel
      have hbb := HB.out k
      have hlo : (0 : Int) ≤ gval (G.drop k) := by omega
      cases k with
      | zero =>
        have hba : decide ((a : Int) ≤ b) = false := decide_eq_false (by have := hbk.out; omega)
        rw [List.drop_zero] at hbb hlo ⊢
        by_cases hbig : most < gval G
        · have hbg := Lib.hid hbig
          have hbx : (2147483647 : Int) < (gval G : Int) := by unfold most at hbig; omega
          have HBX := Lib.hid hbx
          clear hbig hbx
          go_wp2_with fail
          refine (isNumber_no _ _ (.inr HBX.out)).mono ?_
          rintro en w' ⟨rfl, rfl⟩
          go_wp2
          go_ret3
          rw [grpFin, if_pos hbg.out]
          exact ⟨rfl, rfl⟩
        · have hbg := Lib.hid hbig
          have hbx : (gval G : Int) ≤ 2147483647 := by unfold most at hbig; omega
          clear hbig
          go_wp2_with fail
          refine (isNumber_yes _ _ hlo hbx).mono ?_
          rintro en w' ⟨rfl, rfl⟩
          go_wp2
          go_ret3
          refine ⟨?_, rfl⟩
          rw [grpFin, if_neg hbg.out, grpOut, if_pos rfl]
          show Ending.returned (.tuple #[.int .i64 (gval G : Int), .int .i64 (u + 1), .nilIface]) = _
          have := HU.out
          rw [show u + 1 = (a : Int) + ((e + 1 : Nat) : Int) from by omega]
      | succ k =>
        have hbe : b = (a : Int) + (k : Int) := by have := hbk.out; push_cast at this; omega
        have hba : (a : Int) ≤ b := by omega
        obtain ⟨d, hd, hd0, hd1, hixd⟩ := ix_int s b (by omega) (by omega)
        have hnext : gval (G.drop k) = 128 * gval (G.drop (k + 1)) + (d % 128).toNat := by
          have hk' : k < G.length := by rw [HL.out]; omega
          rw [gval_drop G k hk']
          have h1 := HAT.out k (by omega)
          rw [List.getElem?_eq_getElem hk'] at h1
          have h2 := Option.some.inj h1
          have h3 : b.toNat = a + k := by omega
          simp only [h3] at hd
          rw [h2]
          omega
        have hdm : 0 ≤ d % 128 ∧ d % 128 < 128 := by omega
        have hdm1 := hdm.1
        have hdm2 := hdm.2
        have HNX := Lib.hid hnext
        have HBE := Lib.hid hbe
        clear hnext hd hbe hdm
        go_wp2
        go_round
        case rel =>
          refine ⟨k, b - 1, by omega, Lib.hid (by have := HBE.out; omega), by omega, by omega, rfl, ?_⟩
          rw [HNX.out]
          congr 1
          push_cast
          omega
        case measure => simp [intOf]; omega

theorem grpD_in (s : ByteArray) (a : Nat) (w : World) (hs : s.size ≤ maxLen) :
    Calls Tryd.prog 25 #[.string s, .int .i64 (a : Int)] w fun e w' => e = .returned (grpOut a (undV (s.data.toList.drop a))) ∧ w = w' := by
  have hl := fun w => last_in s a w hs
  cases hv : lastG (s.data.toList.drop a) with
  | none =>
    rw [hv] at hl
    rw [undV, hv]
    exact grpD_none s a w hl
  | some e =>
    rw [hv] at hl
    have he : e < (s.data.toList.drop a).length := by
      unfold lastG at hv
      rw [List.findIdx?_eq_some_iff_getElem] at hv
      exact hv.1
    have hin : a + e < s.size := by simp at he; omega
    have hz : (s.data.toList.drop a)[e]? = some s[a + e] := by
      rw [List.getElem?_drop, List.getElem?_eq_getElem (by simpa using hin)]; rfl
    rw [undV, hv]
    simp only
    by_cases h5 : 5 ≤ e
    · rw [if_pos (.inl h5)]
      exact grpD_long s a e w hin hs h5 hl
    · by_cases h0 : 0 < e ∧ s[a + e] = 0
      · rw [if_pos (.inr (.inl ⟨h0.1, by rw [hz, h0.2]⟩))]
        exact grpD_zero s a e w hin (by omega) h0.1 (by rw [h0.2]; rfl) hl
      · have hn : e = 0 ∨ s[a + e].toNat ≠ 0 := by
          by_cases he0 : e = 0
          · exact .inl he0
          · refine .inr fun h => h0 ⟨by omega, UInt8.toNat_inj.1 (by rw [h]; rfl)⟩
        have := grpD_loop s a e w hin hs (by omega) hn hl
        by_cases hb : most < gval ((s.data.toList.drop a).take (e + 1))
        · rw [grpFin, if_pos hb] at this
          rw [if_pos (.inr (.inr hb))]
          exact this
        · rw [grpFin, if_neg hb] at this
          rw [if_neg]
          · exact this
          · rintro (h | h | h)
            · exact h5 h
            · rw [hz] at h; exact h0 ⟨h.1, by simpa using h.2⟩
            · exact hb h

theorem und_bad (s : ByteArray) (a x : Int) (w : World) (hg : HG w) (hx : x = 3 ∨ x = 10) (h : ∀ w, Calls Tryd.prog 25 #[.string s, .int .i64 a] w fun e w' => e = .returned (.tuple #[.int .i64 0, .int .i64 0, wr x]) ∧ w = w') :
    Calls Tryd.prog 18 #[.string s, .int .i64 a] w fun e w' => e = .returned (three (0, a, x)) ∧ Below w.heap.size w w' := by
  have H := Lib.hid h
  have G := Lib.hid hg
  clear h hg
  rcases hx with rfl | rfl
  all_goals
    go_enter Tryd.func18, Tryd.ntmps18
    go_wp2_with fail
    refine (H.out _).mono ?_
    rintro e w' ⟨rfl, rfl⟩
    go_wp2_with fail
    refine (number_wrong _ _ G.out).mono ?_
    rintro e w' ⟨rfl, hb⟩
    go_wp2
    go_ret3
    exact ⟨rfl, hb⟩
theorem und_good (s : ByteArray) (a n p : Int) (w : World) (h : ∀ w, Calls Tryd.prog 25 #[.string s, .int .i64 a] w fun e w' => e = .returned (.tuple #[.int .i64 n, .int .i64 p, .nilIface]) ∧ w = w') :
    Calls Tryd.prog 18 #[.string s, .int .i64 a] w fun e w' => e = .returned (three (n, p, 0)) ∧ Below w.heap.size w w' := by
  have H := Lib.hid h
  clear h
  go_enter Tryd.func18, Tryd.ntmps18
  go_wp2_with fail
  refine (H.out _).mono ?_
  rintro e w' ⟨rfl, rfl⟩
  go_wp2_with fail
  refine (number_nil _).mono ?_
  rintro e w' ⟨rfl, hb⟩
  go_wp2
  go_ret3
  exact ⟨rfl, hb⟩

theorem undV_err (l : List UInt8) : (undV l).2.2 = 0 ∨ (undV l).2.2 = 3 ∨ (undV l).2.2 = 10 := by
  unfold undV
  split
  · simp
  · split <;> simp

theorem und_any (s : ByteArray) (a : Int) (w : World) (hs : s.size ≤ maxLen) (hg : HG w) :
    Calls Tryd.prog 18 #[.string s, .int .i64 a] w fun e w' => e = .returned (three (undR s.data.toList a)) ∧ Below w.heap.size w w' := by
  by_cases h0 : a < 0
  · rw [undR, if_pos h0]
    exact und_bad s a 10 w hg (.inr rfl) (fun w => grpD_low s a w h0)
  · obtain ⟨k, rfl⟩ := Int.eq_ofNat_of_zero_le (show 0 ≤ a by omega)
    have hin := fun w => grpD_in s k w hs
    rw [undR, if_neg h0, Int.toNat_natCast]
    by_cases hz : (undV (s.data.toList.drop k)).2.2 = 0
    · rw [if_pos hz]
      refine und_good s _ _ _ w fun w => ?_
      have := hin w
      rw [grpOut, if_pos hz] at this
      exact this
    · rw [if_neg hz]
      refine und_bad s _ _ w hg ?_ fun w => ?_
      · rcases undV_err (s.data.toList.drop k) with h | h
        · exact absurd h hz
        · exact h
      · have := hin w
        rw [grpOut, if_neg hz] at this
        exact this
end Go.Proofs.YtkemaaohmfdhbaaDoor
