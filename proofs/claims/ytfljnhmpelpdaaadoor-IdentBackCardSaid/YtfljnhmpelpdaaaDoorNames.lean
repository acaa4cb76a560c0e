/- Names: is a text one; formats; letters. -/
import Derived.Test.YtfljnhmpelpdaaaDoorRows
import Derived.Test.YtfljnhmpelpdaaaDoorShelf
import Derived.Test.YtfljnhmpelpdaaaDoorLst
import Derived.Lib.IndexAny
import Derived.Lib.IndexLaws
import Derived.WalkKit
import Derived.OwnWalk
import Derived.Lib.Hide
namespace Go.Proofs.YtfljnhmpelpdaaaDoor
open Go.RowKit

theorem get_run (s : ByteArray) (a : Nat) (h : a < s.size) : ∀ wx : World, (Instr.index 9 (.string s) (.int .i64 (a : Int))).run Tryd.prog wx = .ok (.int .u8 (s[a].toNat : Int)) wx := fun wx => by
  rw [run_index_string wx 9 s .i64 (a : Int) Tryd.underlying9]
  simp [h]
/-- is a byte seen -/
def seenB (c : UInt8) : Bool := decide (33 ≤ c.toNat) && decide (c.toNat ≤ 126)
/-- is a text a name -/
def nameB (s : ByteArray) : Bool := decide (1 ≤ s.size) && (decide (s.size ≤ 40) && s.data.toList.all seenB)
theorem all_no (p : UInt8 → Bool) (s : ByteArray) (k : Nat) (h : k < s.size) (hp : p s[k] = false) : s.data.toList.all p = false := by
  rw [Bool.eq_false_iff]
  intro ha
  have := List.all_eq_true.1 ha s[k] (List.getElem_mem (l := s.data.toList) (by simpa using h))
  rw [hp] at this
  cases this
theorem all_yes (p : UInt8 → Bool) (s : ByteArray) (h : ∀ j, (hj : j < s.size) → p s[j] = true) : s.data.toList.all p = true := by
  rw [List.all_eq_true]
  intro c hc
  obtain ⟨j, hj, rfl⟩ := List.mem_iff_getElem.1 hc
  exact h j (by simpa using hj)
theorem all_at (p : UInt8 → Bool) (s : ByteArray) (h : s.data.toList.all p = true) (j : Nat) (hj : j < s.size) : p s[j] = true :=
  List.all_eq_true.1 h s[j] (List.getElem_mem (l := s.data.toList) (by simpa using hj))

set_option maxHeartbeats 1000000 in
theorem name_any (s : ByteArray) (w : World) : Calls Tryd.prog 14 #[.string s] w fun e w' => e = .returned (.bool (nameB s)) ∧ w = w' := by
  by_cases h1 : (s.size : Int) < 1
  · have hr : nameB s = false := by unfold nameB; rw [decide_eq_false (by omega)]; rfl
    rw [hr]
    clear hr
    go_enter Tryd.func14, Tryd.ntmps14
    go_wp2
    go_ret
    exact ⟨rfl, rfl⟩
  · by_cases h2 : (40 : Int) < (s.size : Int)
    · have hr : nameB s = false := by unfold nameB; rw [decide_eq_false (show ¬ s.size ≤ 40 by omega)]; simp
      have h1' : decide ((s.size : Int) < 1) = false := decide_eq_false h1
      rw [hr]
      clear hr
      go_enter Tryd.func14, Tryd.ntmps14
      go_wp2
      go_ret
      exact ⟨rfl, rfl⟩
    · have hr : nameB s = s.data.toList.all seenB := by unfold nameB; rw [decide_eq_true (show 1 ≤ s.size by omega), decide_eq_true (show s.size ≤ 40 by omega)]; simp
      have h1' : decide ((s.size : Int) < 1) = false := decide_eq_false h1
      have h2' : decide ((40 : Int) < (s.size : Int)) = false := decide_eq_false h2
      rw [hr]
      clear hr
      obtain ⟨q, hq⟩ : ∃ q, s.data.toList.all seenB = q := ⟨_, rfl⟩
      rw [hq]
      have HQ := Lib.hid hq
      clear hq
      go_enter Tryd.func14, Tryd.ntmps14
      go_wp2
      go_loop [14] (fun i => ∃ k : Nat, k ≤ s.size ∧ i = .int .i64 (k : Int) ∧ Hid (∀ j, (hj : j < s.size) → j < k → seenB s[j] = true)) (fun i => s.size - (intOf i).toNat)
      case atStart => exact ⟨0, Nat.zero_le _, rfl, Lib.hid fun j _ h => absurd h (by omega)⟩
      case round =>
        obtain ⟨k, hk, rfl, hall⟩ := hrel
        by_cases hlt : k < s.size
        · have hlt' : (k : Int) < (s.size : Int) := by omega
          have hix := get_run s k hlt
          by_cases hs : seenB s[k] = true
          · have hn : ∀ j, (hj : j < s.size) → j < k + 1 → seenB s[j] = true := by
              intro j hj h
              by_cases hjk : j < k
              · exact hall.out j hj hjk
              · have : j = k := by omega
                subst this
                exact hs
            have HN := Lib.hid hn
            unfold seenB at hs
            simp only [Bool.and_eq_true, decide_eq_true_eq] at hs
            obtain ⟨a1, a2⟩ := hs
            have b1 : decide ((s[k].toNat : Int) < 33) = false := decide_eq_false (by omega)
            have b2 : decide ((126 : Int) < (s[k].toNat : Int)) = false := decide_eq_false (by omega)
            generalize (s[k].toNat : Int) = z at hix b1 b2
            clear hn hall a1 a2
            go_wp2
            refine ⟨⟨k + 1, by omega, by go_num, HN⟩, ?_⟩
            simp [intOf]; omega
          · have hf : seenB s[k] = false := by simpa using hs
            have hqf : q = false := by rw [← HQ.out]; exact all_no seenB s k hlt hf
            subst hqf
            unfold seenB at hf
            by_cases a1 : (s[k].toNat : Int) < 33
            · have b1 : decide ((s[k].toNat : Int) < 33) = true := decide_eq_true a1
              generalize (s[k].toNat : Int) = z at hix b1 a1
              clear hs hf hall HQ
              go_wp2
              go_ret
              exact ⟨rfl, by first | rfl | trivial⟩
            · have a2 : (126 : Int) < (s[k].toNat : Int) := by
                rw [decide_eq_true (show 33 ≤ s[k].toNat by omega)] at hf
                simp at hf
                omega
              have b1 : decide ((s[k].toNat : Int) < 33) = false := decide_eq_false a1
              generalize (s[k].toNat : Int) = z at hix b1 a1 a2
              clear hs hf hall HQ
              go_wp2
              go_ret
              exact ⟨rfl, by first | rfl | trivial⟩
        · have hge : (s.size : Int) ≤ (k : Int) := by omega
          have hqf : q = true := by rw [← HQ.out]; exact all_yes seenB s fun j hj => hall.out j hj (by omega)
          subst hqf
          clear hall HQ
          go_wp2
          go_ret
          exact ⟨rfl, by first | rfl | trivial⟩

/-- is there such a format -/
def fmtB (f : Int) : Bool := decide (0 ≤ f) && decide (f ≤ 4)
theorem fmt_any (f : Int) (w : World) : Calls Tryd.prog 30 #[.int .i64 f] w fun e w' => e = .returned (.bool (fmtB f)) ∧ w = w' := by
  unfold fmtB
  by_cases h1 : 0 ≤ f
  · rw [decide_eq_true h1]
    go_enter Tryd.func30, Tryd.ntmps30
    go_wp2
    go_ret
    exact ⟨rfl, rfl⟩
  · rw [decide_eq_false h1]
    have h1' : decide (0 ≤ f) = false := decide_eq_false h1
    go_enter Tryd.func30, Tryd.ntmps30
    go_wp2
    go_ret
    exact ⟨rfl, rfl⟩
theorem known_any (f : Int) (w : World) : Calls Tryd.prog 47 #[.int .i64 f] w fun e w' => e = .returned (.bool (fmtB f)) ∧ w = w' := by
  unfold fmtB
  by_cases h1 : 0 ≤ f
  · rw [decide_eq_true h1]
    go_enter Tryd.func47, Tryd.ntmps47
    go_wp2
    go_ret
    exact ⟨rfl, rfl⟩
  · rw [decide_eq_false h1]
    have h1' : decide (0 ≤ f) = false := decide_eq_false h1
    go_enter Tryd.func47, Tryd.ntmps47
    go_wp2
    go_ret
    exact ⟨rfl, rfl⟩
def hexedB (f : Int) : Bool := (f == 2) || (f == 3)
theorem hexed_any (f : Int) (w : World) : Calls Tryd.prog 31 #[.int .i64 f] w fun e w' => e = .returned (.bool (hexedB f)) ∧ w = w' := by
  unfold hexedB
  cases h1 : (f == 2) <;>
  · go_enter Tryd.func31, Tryd.ntmps31
    go_wp2
    go_ret
    exact ⟨rfl, rfl⟩
/-- a letter -/
def letB (z : Int) : Bool := (decide (97 ≤ z) && decide (z ≤ 122)) || (decide (65 ≤ z) && decide (z ≤ 90))
theorem letter_any (z : Int) (w : World) : Calls Tryd.prog 63 #[.int .u8 z] w fun e w' => e = .returned (.bool (letB z)) ∧ w = w' := by
  unfold letB
  cases h1 : decide (97 ≤ z) <;> cases h2 : decide (z ≤ 122) <;> cases h3 : decide (65 ≤ z) <;> cases h4 : decide (z ≤ 90) <;>
  · go_enter Tryd.func63, Tryd.ntmps63
    go_wp2
    go_ret
    exact ⟨rfl, rfl⟩
end Go.Proofs.YtfljnhmpelpdaaaDoor
