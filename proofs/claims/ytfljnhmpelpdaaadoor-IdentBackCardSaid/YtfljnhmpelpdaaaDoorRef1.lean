/- The document's own functions of names: which texts are names, letters, digits, none of some bytes; a number's digits. -/
import Derived.Test.YtfljnhmpelpdaaaDoorFreshLaw
import Derived.BigQuiet
namespace Go.Proofs.YtfljnhmpelpdaaaDoor
open Go.RowKit

theorem rlet_any (z : Int) (w : World) : Calls Tryd.prog 45 #[.int .u8 z] w fun e w' => e = .returned (.bool (letB z || (z == 95))) ∧ w = w' := by
  unfold letB
  cases h1 : decide (97 ≤ z) <;> cases h2 : decide (z ≤ 122) <;> cases h3 : decide (65 ≤ z) <;> cases h4 : decide (z ≤ 90) <;> cases h5 : (z == 95) <;>
  · go_enter Tryd.func45, Tryd.ntmps45
    go_wp2
    go_ret
    exact ⟨rfl, rfl⟩
def digB (z : Int) : Bool := decide (48 ≤ z) && decide (z ≤ 57)
theorem rdig_any (z : Int) (w : World) : Calls Tryd.prog 46 #[.int .u8 z] w fun e w' => e = .returned (.bool (digB z)) ∧ w = w' := by
  unfold digB
  cases h1 : decide (48 ≤ z) <;> cases h2 : decide (z ≤ 57) <;>
  · go_enter Tryd.func46, Tryd.ntmps46
    go_wp2
    go_ret
    exact ⟨rfl, rfl⟩

theorem ix_is (c : UInt8) : ix c = if 48 ≤ c.toNat ∧ c.toNat ≤ 57 then (c.toNat : Int) - 48 else if 97 ≤ c.toNat ∧ c.toNat ≤ 102 then (c.toNat : Int) - 97 + 10 else -1 := by
  have := all256 (fun c => decide (ix c = if 48 ≤ c.toNat ∧ c.toNat ≤ 57 then (c.toNat : Int) - 48 else if 97 ≤ c.toNat ∧ c.toNat ≤ 102 then (c.toNat : Int) - 97 + 10 else -1)) (by decide +kernel) c
  exact of_decide_eq_true this
theorem rhd_any (c : UInt8) (w : World) : Calls Tryd.prog 65 #[.int .u8 (c.toNat : Int)] w fun e w' => e = .returned (.int .i64 (ix c)) ∧ w = w' := by
  have hi := ix_is c
  have hb := c.toNat_lt
  by_cases h1 : 48 ≤ c.toNat ∧ c.toNat ≤ 57
  · rw [if_pos h1] at hi
    rw [hi]
    have hd : digB (c.toNat : Int) = true := by unfold digB; rw [decide_eq_true (by omega), decide_eq_true (by omega)]; rfl
    have h2 : (48 : Int) ≤ (c.toNat : Int) := by omega
    have h3 : (c.toNat : Int) ≤ 57 := by omega
    clear hi
    generalize (c.toNat : Int) = z at *
    go_enter Tryd.func65, Tryd.ntmps65
    go_wp2_with fail
    refine (rdig_any z _).mono ?_
    rw [hd]
    rintro e w' ⟨rfl, rfl⟩
    go_wp2
    go_ret
    exact ⟨rfl, rfl⟩
  · rw [if_neg h1] at hi
    have hd : digB (c.toNat : Int) = false := by unfold digB; by_cases h : (48 : Int) ≤ (c.toNat : Int); (rw [decide_eq_true h, decide_eq_false (by omega)]; rfl); (rw [decide_eq_false h]; rfl)
    by_cases h2 : 97 ≤ c.toNat ∧ c.toNat ≤ 102
    · rw [if_pos h2] at hi
      rw [hi]
      have h3 : (97 : Int) ≤ (c.toNat : Int) := by omega
      have h4 : (c.toNat : Int) ≤ 102 := by omega
      clear hi h1 h2 hb
      generalize (c.toNat : Int) = z at *
      go_enter Tryd.func65, Tryd.ntmps65
      go_wp2_with fail
      refine (rdig_any z _).mono ?_
      rw [hd]
      rintro e w' ⟨rfl, rfl⟩
      go_wp2
      go_ret
      exact ⟨rfl, rfl⟩
    · rw [if_neg h2] at hi
      rw [hi]
      have h3 : (97 : Int) ≤ (c.toNat : Int) → ¬ (c.toNat : Int) ≤ 102 := by omega
      clear hi h1 h2 hb
      generalize (c.toNat : Int) = z at *
      cases h5 : decide (97 ≤ z)
      · go_enter Tryd.func65, Tryd.ntmps65
        go_wp2_with fail
        refine (rdig_any z _).mono ?_
        rw [hd]
        rintro e w' ⟨rfl, rfl⟩
        go_wp2
        go_ret
        exact ⟨rfl, rfl⟩
      · have h6 : decide (z ≤ 102) = false := decide_eq_false (h3 (of_decide_eq_true h5))
        clear h3
        go_enter Tryd.func65, Tryd.ntmps65
        go_wp2_with fail
        refine (rdig_any z _).mono ?_
        rw [hd]
        rintro e w' ⟨rfl, rfl⟩
        go_wp2
        go_ret
        exact ⟨rfl, rfl⟩

set_option maxHeartbeats 1000000 in
theorem rname_any (s : ByteArray) (w : World) (hss : s.size ≤ 100000) : Calls Tryd.prog 43 #[.string s] w fun e w' => e = .returned (.bool (nameB s)) ∧ w = w' := by
  obtain ⟨q, hq⟩ : ∃ q, nameB s = q := ⟨_, rfl⟩
  rw [hq]
  have HQ := Lib.hid hq
  clear hq
  go_enter Tryd.func43, Tryd.ntmps43
  go_wp2
  go_loop [3] (fun i => ∃ k : Nat, k ≤ s.size ∧ i = .int .i64 (k : Int) ∧ Hid (∀ j, (hj : j < s.size) → j < k → seenB s[j] = true)) (fun i => s.size - (intOf i).toNat)
  case atStart => exact ⟨0, Nat.zero_le _, rfl, Lib.hid fun j _ h => absurd h (by omega)⟩
  case round =>
    obtain ⟨k, hk, rfl, hall⟩ := hrel
    by_cases hlt : k < s.size
    · have hlt' : (k : Int) < (s.size : Int) := by omega
      have hix := get_run s k hlt
      by_cases hs : seenB s[k] = true
      · have hn : ∀ j, (hj : j < s.size) → j < k + 1 → seenB s[j] = true := by
          intro j hj h
          by_cases hjk : j < k
          · exact hall.out j hj hjk
          · have : j = k := by omega
            subst this
            exact hs
        have HN := Lib.hid hn
        unfold seenB at hs
        simp only [Bool.and_eq_true, decide_eq_true_eq] at hs
        obtain ⟨a1, a2⟩ := hs
        have b1 : decide ((s[k].toNat : Int) < 33) = false := decide_eq_false (by omega)
        have b2 : decide ((126 : Int) < (s[k].toNat : Int)) = false := decide_eq_false (by omega)
        generalize (s[k].toNat : Int) = z at hix b1 b2
        clear hn hall a1 a2
        go_wp2
        refine ⟨⟨k + 1, by omega, by go_num, HN⟩, ?_⟩
        simp [intOf]; omega
      · have hf : seenB s[k] = false := by simpa using hs
        have hqf : q = false := by rw [← HQ.out]; unfold nameB; rw [all_no seenB s k hlt hf]; simp
        subst hqf
        unfold seenB at hf
        by_cases a1 : (s[k].toNat : Int) < 33
        · have b1 : decide ((s[k].toNat : Int) < 33) = true := decide_eq_true a1
          generalize (s[k].toNat : Int) = z at hix b1 a1
          clear hs hf hall HQ
          go_wp2
          go_ret
          exact ⟨rfl, by first | rfl | trivial⟩
        · have a2 : (126 : Int) < (s[k].toNat : Int) := by
            rw [decide_eq_true (show 33 ≤ s[k].toNat by omega)] at hf
            simp at hf
            omega
          have b1 : decide ((s[k].toNat : Int) < 33) = false := decide_eq_false a1
          generalize (s[k].toNat : Int) = z at hix b1 a1 a2
          clear hs hf hall HQ
          go_wp2
          go_ret
          exact ⟨rfl, by first | rfl | trivial⟩
    · have hge : (s.size : Int) ≤ (k : Int) := by omega
      have hqf : q = (decide (1 ≤ s.size) && (decide (s.size ≤ 40) && true)) := by rw [← HQ.out]; unfold nameB; rw [all_yes seenB s fun j hj => hall.out j hj (by omega)]
      by_cases c1 : (1 : Int) ≤ (s.size : Int)
      · by_cases c2 : (s.size : Int) ≤ 40
        · rw [decide_eq_true (show 1 ≤ s.size by omega), decide_eq_true (show s.size ≤ 40 by omega)] at hqf
          subst hqf
          clear hall HQ
          go_wp2
          go_ret
          exact ⟨rfl, by first | rfl | trivial⟩
        · rw [decide_eq_true (show 1 ≤ s.size by omega), decide_eq_false (show ¬ s.size ≤ 40 by omega)] at hqf
          subst hqf
          clear hall HQ
          go_wp2
          go_ret
          exact ⟨rfl, by first | rfl | trivial⟩
      · rw [decide_eq_false (show ¬ 1 ≤ s.size by omega)] at hqf
        subst hqf
        have c1' : decide ((1 : Int) ≤ (s.size : Int)) = false := decide_eq_false c1
        clear hall HQ
        go_wp2
        go_ret
        exact ⟨rfl, by first | rfl | trivial⟩

theorem any_yes (p : UInt8 → Bool) (s : ByteArray) (k : Nat) (h : k < s.size) (hp : p s[k] = true) : s.data.toList.any p = true :=
  List.any_eq_true.2 ⟨s[k], List.getElem_mem (l := s.data.toList) (by simpa using h), hp⟩
theorem any_no (p : UInt8 → Bool) (s : ByteArray) (h : ∀ j, (hj : j < s.size) → p s[j] = false) : s.data.toList.any p = false := by
  rw [List.any_eq_false]
  intro c hc
  obtain ⟨j, hj, rfl⟩ := List.mem_iff_getElem.1 hc
  have : p s[j] = false := h j (by simpa using hj)
  exact Bool.eq_false_iff.1 this
theorem con_yes (t : ByteArray) (c : UInt8) (j : Nat) (h : j < t.size) (e : c = t[j]) : t.data.toList.contains c = true := by
  rw [List.contains_iff_mem, e]
  exact List.getElem_mem (l := t.data.toList) (by simpa using h)
theorem con_no (t : ByteArray) (c : UInt8) (h : ∀ j, (hj : j < t.size) → c ≠ t[j]) : t.data.toList.contains c = false := by
  rw [Bool.eq_false_iff]
  intro hc
  rw [List.contains_iff_mem] at hc
  obtain ⟨j, hj, e⟩ := List.mem_iff_getElem.1 hc
  exact h j (by simpa using hj) e.symm

set_option maxRecDepth 100000 in
set_option maxHeartbeats 1000000 in
theorem without_any (s t : ByteArray) (w : World) (hss : s.size ≤ 100000) (hts : t.size ≤ 100000) : Calls Tryd.prog 44 #[.string s, .string t] w fun e w' => e = .returned (.bool (!anyIn s t.data.toList)) ∧ Below w.heap.size w w' := by
  obtain ⟨q, hq⟩ : ∃ q, (!anyIn s t.data.toList) = q := ⟨_, rfl⟩
  rw [hq]
  have HQ := Lib.hid hq
  clear hq
  go_enter Tryd.func44, Tryd.ntmps44
  go_wp2
  go_loopw [5, 6] (fun i _ wr => ∃ k : Nat, k ≤ s.size ∧ i = .int .i64 (k : Int) ∧ Below w.heap.size w wr ∧ Hid (∀ j, (hj : j < s.size) → j < k → t.data.toList.contains s[j] = false)) (fun i _ _ => s.size - (intOf i).toNat)
  case atStart => exact ⟨0, Nat.zero_le _, rfl, Below.refl _ _, Lib.hid fun j _ h => absurd h (by omega)⟩
  case round =>
    obtain ⟨k, hk, rfl, hB, hall⟩ := hrel
    have HB := Lib.hid hB
    clear hB
    by_cases hlt : k < s.size
    · have hlt' : (k : Int) < (s.size : Int) := by omega
      have hix := get_run s k hlt
      obtain ⟨c, hc⟩ : ∃ c, s[k] = c := ⟨_, rfl⟩
      rw [hc] at hix
      have HC := Lib.hid hc
      clear hc
      go_wp2
      go_loopw [6] (fun i wx => ∃ m : Nat, m ≤ t.size ∧ i = .int .i64 (m : Int) ∧ Below w.heap.size w wx ∧ Hid (∀ j, (hj : j < t.size) → j < m → c ≠ t[j])) (fun i _ => t.size - (intOf i).toNat)
      case atStart => exact ⟨0, Nat.zero_le _, rfl, HB.out, Lib.hid fun j _ h => absurd h (by omega)⟩
      case round =>
        obtain ⟨m, hm, rfl, hB2, hall2⟩ := hrel
        have HB2 := Lib.hid hB2
        clear hB2
        by_cases hlt2 : m < t.size
        · have hlt2' : (m : Int) < (t.size : Int) := by omega
          have hiy := get_run t m hlt2
          obtain ⟨d, hd⟩ : ∃ d, t[m] = d := ⟨_, rfl⟩
          rw [hd] at hiy
          by_cases he : c = d
          · have hqf : q = false := by
              rw [← HQ.out]
              unfold anyIn
              rw [any_yes (fun c => t.data.toList.contains c) s k hlt (con_yes t _ m hlt2 (by rw [HC.out, hd, he]))]
              rfl
            subst hqf
            have hcd : ((c.toNat : Int) == (d.toNat : Int)) = true := by rw [he]; simp
            clear hd he hall hall2 HQ
            go_wp2_with fail
            go_quiet (fail)
            go_wp2
            go_ret
            exact ⟨rfl, below_drewN HB2.out _⟩
          · have hcd : ((c.toNat : Int) == (d.toNat : Int)) = false := by
              rw [beq_eq_false_iff_ne]
              intro h
              exact he (UInt8.toNat_inj.1 (by omega))
            have hn : ∀ j, (hj : j < t.size) → j < m + 1 → c ≠ t[j] := by
              intro j hj h
              by_cases hjk : j < m
              · exact hall2.out j hj hjk
              · have : j = m := by omega
                subst this
                rw [hd]; exact he
            have HN := Lib.hid hn
            clear hd he hall2 hn
            go_wp2_with fail
            go_quiet (fail)
            go_wp2
            refine ⟨⟨m + 1, by omega, by go_num, below_drewN HB2.out _, HN⟩, ?_⟩
            simp [intOf]; omega
        · have hge : (t.size : Int) ≤ (m : Int) := by omega
          have hn : ∀ j, (hj : j < s.size) → j < k + 1 → t.data.toList.contains s[j] = false := by
            intro j hj h
            by_cases hjk : j < k
            · exact hall.out j hj hjk
            · have : j = k := by omega
              subst this
              exact con_no t _ fun j hj => by rw [HC.out]; exact hall2.out j hj (by omega)
          have HN := Lib.hid hn
          clear hall hall2 hn
          go_wp2
          refine ⟨⟨k + 1, by omega, by go_num, HB2.out, HN⟩, ?_⟩
          simp [intOf]; omega
    · have hge : (s.size : Int) ≤ (k : Int) := by omega
      have hqf : q = true := by
        rw [← HQ.out]
        unfold anyIn
        rw [any_no (fun c => t.data.toList.contains c) s fun j hj => hall.out j hj (by omega)]
        rfl
      subst hqf
      clear hall HQ
      go_wp2
      go_ret
      exact ⟨rfl, HB.out⟩

theorem dec_small {n : Nat} (h : n < 10) : Lib.decDigits n = [UInt8.ofNat (48 + n)] := by rw [Lib.decDigits, dif_pos h]
theorem dec_big {n : Nat} (h : ¬ n < 10) : Lib.decDigits n = Lib.decDigits (n / 10) ++ [UInt8.ofNat (48 + n % 10)] := by rw [Lib.decDigits, dif_neg h]
theorem dec_len : ∀ (k n : Nat), n < 10 ^ (k + 1) → (Lib.decDigits n).length ≤ k + 1
  | 0, n, h => by rw [dec_small (by simpa using h)]; simp
  | k + 1, n, h => by
    by_cases h1 : n < 10
    · rw [dec_small h1]; simp
    · rw [dec_big h1, List.length_append]
      have := dec_len k (n / 10) (by rw [Nat.pow_succ] at h; omega)
      simp; omega
/-- oneT byte as a text -/
def oneT (c : Int) : ByteArray := ⟨#[UInt8.ofNat c.toNat]⟩
theorem oneT_list (c : Int) : (oneT c).data.toList = [UInt8.ofNat c.toNat] := rfl
theorem oneT_size (c : Int) : (oneT c).size = 1 := rfl
theorem oneT_run (W : World) (c : Int) (h0 : 0 ≤ c) (h1 : c ≤ 255) :
    (convert 77 9 (.slice (some ⟨W.heap.size, 0, none⟩) 1 1)).run Tryd.prog (W.alloc (.cells #[.int .u8 c] 5)) = .ok (.string (oneT c)) (W.alloc (.cells #[.int .u8 c] 5)) :=
  run_convert_bytes_back (P := Tryd.prog) (W.alloc (.cells #[.int .u8 c] 5)) 77 9 5 ⟨W.heap.size, 0, none⟩ 1 [UInt8.ofNat c.toNat] Tryd.underlying77 Tryd.underlying5 Tryd.underlying9 (fun j hj => by
    obtain rfl : j = 0 := by simp at hj; omega
    have h : ((UInt8.ofNat c.toNat).toNat : Int) = c := by rw [UInt8.toNat_ofNat']; omega
    have := (Blk.new W #[.int .u8 c] 5).cell 0
    simp only [List.getElem_cons_zero, h]
    exact this)

def PutI (n k : Nat) (s : ByteArray) : Prop := (k = 0 → s.data.toList = Lib.decDigits n) ∧ (0 < k → Lib.decDigits k ++ s.data.toList = Lib.decDigits n)
theorem PutI.size {n k : Nat} {s : ByteArray} (h : PutI n k s) (hn : n ≤ 2147483647) : s.size ≤ 10 := by
  have hl := dec_len 9 n (by omega)
  have hs : s.data.toList.length = s.size := by simp
  rcases Nat.eq_zero_or_pos k with h0 | h0
  · rw [← h.1 h0] at hl; omega
  · rw [← h.2 h0, List.length_append] at hl; omega
theorem PutI.step {n k : Nat} {s : ByteArray} (h : PutI n k s) (h0 : 0 < k) : PutI n (k / 10) (oneT (48 + (k : Int) % 10) ++ s) := by
  have h2 := h.2 h0
  have e : (oneT (48 + (k : Int) % 10) ++ s).data.toList = UInt8.ofNat (48 + k % 10) :: s.data.toList := by
    rw [ByteArray.data_append, Array.toList_append, oneT_list, show (48 + (k : Int) % 10).toNat = 48 + k % 10 from by omega]
    rfl
  refine ⟨fun hz => ?_, fun hp => ?_⟩
  · rw [e, ← h2, dec_small (show k < 10 by omega), show k % 10 = k from by omega]; rfl
  · rw [e, ← h2, dec_big (show ¬ k < 10 by omega), List.append_assoc]; rfl
theorem PutI.init (n : Nat) : PutI n (n / 10) (oneT (48 + (n : Int) % 10)) := by
  have e : (oneT (48 + (n : Int) % 10)).data.toList = [UInt8.ofNat (48 + n % 10)] := by
    rw [oneT_list, show (48 + (n : Int) % 10).toNat = 48 + n % 10 from by omega]
  refine ⟨fun hz => ?_, fun hp => ?_⟩
  · rw [e, dec_small (show n < 10 by omega), show n % 10 = n from by omega]
  · rw [e, dec_big (show ¬ n < 10 by omega)]

set_option maxRecDepth 100000 in
set_option maxHeartbeats 1000000 in
theorem rput_yes (n : Nat) (w : World) (hn : n ≤ 2147483647) : Calls Tryd.prog 27 #[.int .i64 (n : Int)] w fun e w' => e = .returned (.tuple #[.string ⟨(Lib.decDigits n).toArray⟩, .int .i64 0]) ∧ Below w.heap.size w w' := by
  have hcv := oneT_run w (48 + (n : Int) % 10) (by omega) (by omega)
  go_enter Tryd.func27, Tryd.ntmps27
  go_wp2
  go_loopw [0, 4] (fun m x wr => ∃ (k : Nat) (s : ByteArray), m = .int .i64 (k : Int) ∧ x = .string s ∧ k ≤ 2147483647 ∧ PutI n k s ∧ Below w.heap.size w wr) (fun m _ _ => (intOf m).toNat)
  case atStart =>
    refine ⟨n / 10, _, ?_, rfl, by omega, PutI.init n, (Below.refl _ _).alloc (Nat.le_refl _) _⟩
    go_num
  case round =>
    obtain ⟨k, s, rfl, rfl, hk, hp, hB⟩ := hrel
    have hsz := hp.size hn
    have hsz' : (s.size : Int) ≤ 10 := by omega
    have hos := oneT_size (48 + (k : Int) % 10)
    have hcv2 := oneT_run wr (48 + (k : Int) % 10) (by omega) (by omega)
    have HP := Lib.hid hp
    have HB := Lib.hid hB
    clear hp hB hcv
    by_cases h0 : k = 0
    · subst h0
      go_wp2
      go_ret2
      refine ⟨?_, HB.out⟩
      show Ending.returned (.tuple #[.string s, .int .i64 0]) = _
      rw [← HP.out.1 rfl]
    · have h0' : (0 : Int) < (k : Int) := by omega
      go_wp2
      refine ⟨⟨k / 10, _, by go_num, rfl, by omega, HP.out.step (by omega), HB.out.alloc HB.out.size _⟩, ?_⟩
      simp [intOf]; omega


end Go.Proofs.YtfljnhmpelpdaaaDoor
