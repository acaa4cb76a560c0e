/- digits: Digit, Put, Get. -/
import Derived.Test.YtkemaaohmfdhbaaDoorRows
import Derived.Test.YtkemaaohmfdhbaaDoorAsGo
import Derived.Test.YtkemaaohmfdhbaaDoorItoa
import Derived.Test.YtkemaaohmfdhbaaDoorPlain
import Derived.WalkSmall
namespace Go.Proofs.YtkemaaohmfdhbaaDoor
open Go.RowKit

/-- the table of the library's that start-up lays -/
def HT (w : World) : Prop := Lib.TabIs Tryd.prog w "internal/strconv.uint64pow10" .u64 Lib.pow10Tab
theorem tabAt : Tryd.prog.globalNamed "internal/strconv.uint64pow10" = some 1 := by kernel_rfl
theorem HT.lt {w : World} (h : HT w) : 1 < w.heap.size := by
  unfold HT Lib.TabIs at h
  unfold World.var? at h
  rw [tabAt] at h
  simp only [Option.bind_some] at h
  cases hx : w.heap[1]? with
  | none => rw [hx] at h; cases h
  | some o => exact (Array.getElem?_eq_some_iff.1 hx).1
theorem HT.below {w w' : World} (h : HT w) (hb : Below w.heap.size w w') : HT w' := var?_below hb tabAt h.lt h
/-- both -/
def Env (w : World) : Prop := HG w ∧ HT w
theorem Env.below {w w' : World} (h : Env w) (hb : Below w.heap.size w w') : Env w' := ⟨h.1.below hb, h.2.below hb⟩

theorem isNumber_yes (n : Int) (w : World) (h0 : 0 ≤ n) (h1 : n ≤ 2147483647) : Calls Tryd.prog 20 #[.int .i64 n] w fun e w' => e = .returned (.bool true) ∧ w = w' := by
  go_enter Tryd.func20, Tryd.ntmps20
  go_wp2
  go_ret
  exact ⟨rfl, rfl⟩
theorem isNumber_no (n : Int) (w : World) (h : n < 0 ∨ 2147483647 < n) : Calls Tryd.prog 20 #[.int .i64 n] w fun e w' => e = .returned (.bool false) ∧ w = w' := by
  by_cases h0 : n < 0
  · have h0' : decide (0 ≤ n) = false := decide_eq_false (by omega)
    go_enter Tryd.func20, Tryd.ntmps20
    go_wp2
    go_ret
    exact ⟨rfl, rfl⟩
  · have h0' : 0 ≤ n := by omega
    have h1' : decide (n ≤ 2147483647) = false := decide_eq_false (by omega)
    go_enter Tryd.func20, Tryd.ntmps20
    go_wp2
    go_ret
    exact ⟨rfl, rfl⟩

theorem digit_yes (c : Int) (w : World) (h0 : 48 ≤ c) (h1 : c ≤ 57) : Calls Tryd.prog 15 #[.int .u8 c] w fun e w' => e = .returned (.bool true) ∧ w = w' := by
  go_enter Tryd.func15, Tryd.ntmps15
  go_wp2
  go_ret
  exact ⟨rfl, rfl⟩
theorem digit_no (c : Int) (w : World) (h : c < 48 ∨ 57 < c) : Calls Tryd.prog 15 #[.int .u8 c] w fun e w' => e = .returned (.bool false) ∧ w = w' := by
  by_cases h0 : c < 48
  · have h0' : decide (48 ≤ c) = false := decide_eq_false (by omega)
    go_enter Tryd.func15, Tryd.ntmps15
    go_wp2
    go_ret
    exact ⟨rfl, rfl⟩
  · have h0' : 48 ≤ c := by omega
    have h1' : decide (c ≤ 57) = false := decide_eq_false (by omega)
    go_enter Tryd.func15, Tryd.ntmps15
    go_wp2
    go_ret
    exact ⟨rfl, rfl⟩

theorem put_yes (n : Nat) (w : World) (he : HT w) (h1 : n ≤ 2147483647) : Calls Tryd.prog 10 #[.int .i64 (n : Int)] w fun e w' => e = .returned (.tuple #[.string ⟨(Lib.decDigits n).toArray⟩, .int .i64 0]) ∧ Below w.heap.size w w' := by
  have HE := Lib.hid he
  clear he
  go_enter Tryd.func10, Tryd.ntmps10
  go_wp2_with fail
  refine (isNumber_yes _ _ (by omega) (by omega)).mono ?_
  rintro e w' ⟨rfl, rfl⟩
  go_wp2_with fail
  refine (Tryd.strconv_Itoa _ (by omega) (by omega) _ HE.out).mono ?_
  rintro e w' ⟨rfl, k, os, rfl⟩
  go_wp2
  go_ret2
  refine ⟨?_, rfl, rfl, rfl, by simp [Sort.grow, World.drewN], fun i hi => ?_⟩
  · have : Lib.itoa (n : Int) = Lib.decDigits n := by simp [Lib.itoa]
    rw [this]; rfl
  · show (w.heap ++ os)[i]? = _
    rw [Array.getElem?_append_left hi]
theorem put_no (n : Int) (w : World) (h : n < 0 ∨ 2147483647 < n) : Calls Tryd.prog 10 #[.int .i64 n] w fun e w' => e = .returned (.tuple #[.string ⟨#[]⟩, .int .i64 3]) ∧ Below w.heap.size w w' := by
  go_enter Tryd.func10, Tryd.ntmps10
  go_wp2_with fail
  refine (isNumber_no _ _ h).mono ?_
  rintro e w' ⟨rfl, rfl⟩
  go_wp2
  go_ret2
  exact ⟨rfl, Below.refl _ _⟩

theorem isDg_yes {c : UInt8} (h : isDg c = true) : (48 : Int) ≤ (c.toNat : Int) ∧ (c.toNat : Int) ≤ 57 := by
  simp only [isDg, decide_eq_true_eq] at h; omega
theorem isDg_no {c : UInt8} (h : isDg c = false) : (c.toNat : Int) < 48 ∨ (57 : Int) < (c.toNat : Int) := by
  simp only [isDg, decide_eq_false_iff_not] at h; omega

theorem getL (s : ByteArray) (k : Nat) (h : k < s.size) : s.data.toList[k]'(by simpa using h) = s[k] := rfl

set_option maxHeartbeats 1000000 in
theorem countDigits_any (s : ByteArray) (w : World) (hs : s.size ≤ maxLen) :
    Calls Tryd.prog 27 #[.string s] w fun e w' => e = .returned (.int .i64 (run s.data.toList).length) ∧ w = w' := by
  unfold maxLen at hs
  go_enter Tryd.func27, Tryd.ntmps27
  go_wp2
  go_loop [6] (fun i => ∃ k : Nat, k ≤ s.size ∧ i = .int .i64 k ∧ ∀ j, (h : j < k) → (h' : j < s.data.toList.length) → isDg s.data.toList[j] = true) (fun i => s.size - (intOf i).toNat)
  case atStart => exact ⟨0, Nat.zero_le _, rfl, fun j h => absurd h (by omega)⟩
  case round =>
    obtain ⟨k, hk, rfl, hall⟩ := hrel
    have HA := Lib.hid hall
    clear hall
    by_cases hlt : k < s.size
    · by_cases hd : isDg s[k] = true
      · have HD := Lib.hid hd
        clear hd
        go_wp2_with fail
        refine (digit_yes _ _ (isDg_yes HD.out).1 (isDg_yes HD.out).2).mono ?_
        rintro e w' ⟨rfl, rfl⟩
        go_wp2
        go_round
        case rel =>
          refine ⟨k + 1, by omega, by go_num, fun j h h' => ?_⟩
          by_cases hj : j < k
          · exact HA.out j hj h'
          · have : j = k := by omega
            subst this
            exact HD.out
        case measure => simp [intOf]; omega
      · have HD := Lib.hid (Bool.eq_false_iff.2 hd)
        clear hd
        go_wp2_with fail
        refine (digit_no _ _ (isDg_no HD.out)).mono ?_
        rintro e w' ⟨rfl, rfl⟩
        go_wp2
        go_ret
        have := run_is s.data.toList k (by simpa using hk) HA.out (fun _ => HD.out)
        refine ⟨?_, rfl⟩
        rw [this, List.length_take]
        show Ending.returned (.int .i64 (k : Int)) = _
        simp; omega
    · have hk' : k = s.size := by omega
      subst hk'
      go_wp2
      go_ret
      have := run_is s.data.toList s.size (by simp) HA.out (fun h => absurd h (by simp))
      refine ⟨?_, rfl⟩
      rw [this]
      show Ending.returned (.int .i64 (s.size : Int)) = _
      simp

theorem ext1 (t : ByteArray) (e : Nat) : (t.extract e t.size).data.toList = t.data.toList.drop e := by
  rw [ByteArray.data_extract, Array.toList_extract, List.extract_eq_take_drop, List.take_of_length_le (by simp)]

/-- an error that wraps a number -/
abbrev wr (n : Int) : Value := .iface 47 (.agg #[.int .i64 n])

theorem getD_low (s : ByteArray) (a : Int) (w : World) (h : a < 0) :
    Calls Tryd.prog 22 #[.string s, .int .i64 a] w fun e w' => e = .returned (.tuple #[.int .i64 0, .int .i64 0, wr 3]) ∧ w = w' := by
  go_enter Tryd.func22, Tryd.ntmps22
  go_wp2
  go_ret3
  exact ⟨rfl, rfl⟩
theorem getD_high (s : ByteArray) (a : Int) (w : World) (hs : s.size ≤ maxLen) (h : (s.size : Int) < a) :
    Calls Tryd.prog 22 #[.string s, .int .i64 a] w fun e w' => e = .returned (.tuple #[.int .i64 0, .int .i64 0, wr 3]) ∧ w = w' := by
  unfold maxLen at hs
  have h0 : decide (a < 0) = false := decide_eq_false (by omega)
  go_enter Tryd.func22, Tryd.ntmps22
  go_wp2
  go_ret3
  exact ⟨rfl, rfl⟩

/-- what getDigits tells at a place of the text -/
def getOut (a : Nat) : Option (Nat × Nat) → Value
  | some (n, k) => .tuple #[.int .i64 n, .int .i64 ((a : Int) + k), .nilIface]
  | none => .tuple #[.int .i64 0, .int .i64 0, wr 3]

set_option maxHeartbeats 2000000 in
theorem getD_in (s : ByteArray) (a : Nat) (w : World) (hs : s.size ≤ maxLen) (h : a ≤ s.size) :
    Calls Tryd.prog 22 #[.string s, .int .i64 (a : Int)] w fun e w' => e = .returned (getOut a (getV (s.data.toList.drop a))) ∧ w = w' := by
  unfold maxLen at hs
  have hdl : (s.data.toList.drop a).length = s.size - a := by simp
  have hrl := run_le (s.data.toList.drop a)
  have hcd := fun w => countDigits_any (s.extract a s.size) w (by unfold maxLen; rw [ByteArray.size_extract]; omega)
  rw [ext1] at hcd
  obtain ⟨m, hm⟩ : ∃ m, (run (s.data.toList.drop a)).length = m := ⟨_, rfl⟩
  rw [hm] at hcd hrl
  have HCD := Lib.hid hcd
  have HM := Lib.hid hm
  clear hcd hm
  rw [hdl] at hrl
  clear hdl
  have h0 : decide ((a : Int) < 0) = false := decide_eq_false (by omega)
  have ha1 : decide ((s.size : Int) < (a : Int)) = false := decide_eq_false (by omega)
  have ha2 : decide (s.size < a) = false := decide_eq_false (by omega)
  by_cases hm0 : m = 0
  · have t0 : ((m : Int) == 0) = true := by simpa using hm0
    have HM0 := Lib.hid hm0
    clear hm0
    go_enter Tryd.func22, Tryd.ntmps22
    go_wp2_with fail
    refine (HCD.out _).mono ?_
    rintro e w' ⟨rfl, rfl⟩
    go_wp2
    go_ret3
    have : getV (s.data.toList.drop a) = none := by rw [getV, if_pos (.inl (HM.out.trans HM0.out))]
    rw [this]
    exact ⟨rfl, rfl⟩
  · have t0 : ((m : Int) == 0) = false := by simpa using hm0
    by_cases hm10 : 10 < m
    · have t1 : decide (10 < m) = true := decide_eq_true hm10
      go_enter Tryd.func22, Tryd.ntmps22
      go_wp2_with fail
      refine (HCD.out _).mono ?_
      rintro e w' ⟨rfl, rfl⟩
      go_wp2
      go_ret3
      have : getV (s.data.toList.drop a) = none := by rw [getV, if_pos (.inr (.inl (by rw [HM.out]; exact hm10)))]
      rw [this]
      exact ⟨rfl, rfl⟩
    · have t1 : decide (10 < m) = false := decide_eq_false hm10
      have hlt : a < s.size := by omega
      have HG48 : (s.data.toList.drop a).head? = some s[a] := by
        rw [List.head?_drop, List.getElem?_eq_getElem (by simpa using hlt)]; rfl
      by_cases hz : 1 < m ∧ s[a] = 48
      · have t2 : (1 : Int) < (m : Int) := by have := hz.1; omega
        have t3 : ((s[a].toNat : Int) == 48) = true := by rw [hz.2]; rfl
        have HZ := Lib.hid hz
        have HH := Lib.hid HG48
        clear hz HG48
        go_enter Tryd.func22, Tryd.ntmps22
        go_wp2_with fail
        refine (HCD.out _).mono ?_
        rintro e w' ⟨rfl, rfl⟩
        go_wp2
        go_ret3
        have : getV (s.data.toList.drop a) = none := by rw [getV, if_pos (.inr (.inr (.inl ⟨by rw [HM.out]; exact HZ.out.1, by rw [HH.out, HZ.out.2]⟩)))]
        rw [this]
        exact ⟨rfl, rfl⟩
      · have hrun := run_take (s.data.toList.drop a)
        rw [HM.out] at hrun
        have hdg := run_dg (s.data.toList.drop a)
        have hval : ∀ k, k ≤ m → dval ((run (s.data.toList.drop a)).take k) ≤ 9999999999 := by
          intro k hk
          have h1 := dval_lt ((run (s.data.toList.drop a)).take k) (fun c hc => hdg c (List.mem_of_mem_take hc))
          have h2 : ((run (s.data.toList.drop a)).take k).length ≤ 10 := by rw [List.length_take, HM.out]; omega
          have h3 : 10 ^ ((run (s.data.toList.drop a)).take k).length ≤ 10 ^ 10 := Nat.pow_le_pow_right (by omega) h2
          omega
        have hat : ∀ k, (h : k < m) → (h' : a + k < s.size) → isDg s[a + k] = true ∧ (run (s.data.toList.drop a)).take (k + 1) = (run (s.data.toList.drop a)).take k ++ [s[a + k]] := by
          intro k h h'
          have hk : k < (run (s.data.toList.drop a)).length := by rw [HM.out]; exact h
          have he : (run (s.data.toList.drop a))[k] = s[a + k] := by
            have : (run (s.data.toList.drop a))[k]? = some s[a + k] := by
              rw [hrun, List.getElem?_take_of_lt h, List.getElem?_drop, List.getElem?_eq_getElem (by simpa using h')]; rfl
            rw [List.getElem?_eq_getElem hk] at this
            exact Option.some.inj this
          refine ⟨?_, ?_⟩
          · rw [← he]; exact hdg _ (List.getElem_mem hk)
          · rw [List.take_succ_eq_append_getElem hk, he]
        have hnone : 0 < dval (run (s.data.toList.drop a)) → most < dval (run (s.data.toList.drop a)) → getV (s.data.toList.drop a) = none := fun _ hb => by rw [getV, if_pos (.inr (.inr (.inr hb)))]
        have hsome : ¬ most < dval (run (s.data.toList.drop a)) → getV (s.data.toList.drop a) = some (dval (run (s.data.toList.drop a)), m) := fun hb => by
          rw [getV, if_neg, HM.out]
          rintro (h1 | h1 | h1 | h1)
          · rw [HM.out] at h1; omega
          · rw [HM.out] at h1; omega
          · rw [HM.out, HG48] at h1; exact hz ⟨h1.1, by simpa using h1.2⟩
          · exact hb h1
        have hfull : (run (s.data.toList.drop a)).take m = run (s.data.toList.drop a) := by rw [List.take_of_length_le (by rw [HM.out]; exact Nat.le_refl _)]
        have HV := Lib.hid hval
        have HAT := Lib.hid hat
        have HN := Lib.hid hnone
        have HS := Lib.hid hsome
        have HF := Lib.hid hfull
        clear hval hat hnone hsome hfull hrun hdg HG48
        have hzz : (1 : Int) < (m : Int) → ((s[a].toNat : Int) == 48) = false := fun h => by
          have : ¬ s[a] = 48 := fun e => hz ⟨by omega, e⟩
          rw [beq_eq_false_iff_ne]
          intro e
          exact this (UInt8.toNat_inj.1 (by have : (48 : UInt8).toNat = 48 := rfl; omega))
        have HZZ := Lib.hid hzz
        clear hz hzz
        have hcase : ((1 : Int) < (m : Int) ∧ ((s[a].toNat : Int) == 48) = false) ∨ decide ((1 : Int) < (m : Int)) = false := by
          by_cases h1m : (1 : Int) < (m : Int)
          · exact .inl ⟨h1m, HZZ.out h1m⟩
          · exact .inr (decide_eq_false h1m)
        clear HZZ
        have t1i : decide ((10 : Int) < (m : Int)) = false := decide_eq_false (by omega)
        have hmm : m ≤ 10 := by omega
        clear hm10 hm0
        rcases hcase with ⟨t2, t3⟩ | t2
        all_goals
          go_enter Tryd.func22, Tryd.ntmps22
          go_wp2_with fail
          refine (HCD.out _).mono ?_
          rintro e w' ⟨rfl, rfl⟩
          go_wp2
          go_loop [8, 43] (fun n i => ∃ k : Nat, k ≤ m ∧ i = .int .i64 k ∧ n = .int .i64 (dval ((run (s.data.toList.drop a)).take k))) (fun _ i => m - (intOf i).toNat)
          case atStart => exact ⟨0, Nat.zero_le _, rfl, rfl⟩
          case round =>
            obtain ⟨k, hk, rfl, rfl⟩ := hrel
            have hb := HV.out k hk
            by_cases hkm : k < m
            · have hin : a + k < s.size := by omega
              obtain ⟨hd, hsn⟩ := HAT.out k hkm hin
              have hd2 := isDg_yes hd
              have HSN := Lib.hid hsn
              clear hsn hd
              go_wp2
              go_round
              case rel =>
                refine ⟨k + 1, by omega, by go_num, ?_⟩
                rw [HSN.out, dval_snoc]
                congr 1
                omega
              case measure => simp [intOf]; omega
            · have hkm' : k = m := by omega
              subst hkm'
              rw [HF.out] at hb ⊢
              by_cases hbig : most < dval (run (s.data.toList.drop a))
              · have hb2 : dval (run (s.data.toList.drop a)) < 0 ∨ (2147483647 : Int) < (dval (run (s.data.toList.drop a)) : Int) := by right; unfold most at hbig; omega
                have HB2 := Lib.hid hb2
                have HR := Lib.hid (HN.out (by unfold most at hbig; omega) hbig)
                clear hb2 hbig
                go_wp2_with fail
                refine (isNumber_no _ _ (.inr (by rcases HB2.out with h | h <;> omega))).mono ?_
                rintro e w' ⟨rfl, rfl⟩
                go_wp2
                go_ret3
                rw [HR.out]
                exact ⟨rfl, rfl⟩
              · have HR := Lib.hid (HS.out hbig)
                have hb2 : dval (run (s.data.toList.drop a)) ≤ 2147483647 := by unfold most at hbig; omega
                clear hbig
                go_wp2_with fail
                refine (isNumber_yes _ _ (by omega) (by omega)).mono ?_
                rintro e w' ⟨rfl, rfl⟩
                go_wp2
                go_ret3
                rw [HR.out]
                exact ⟨rfl, rfl⟩
end Go.Proofs.YtkemaaohmfdhbaaDoor
