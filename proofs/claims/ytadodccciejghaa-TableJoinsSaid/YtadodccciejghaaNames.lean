/- Names; rows of texts: has one; are they few; are they alike. -/
import Derived.Test.YtadodccciejghaaPlain2
import Derived.Test.YtadodccciejghaaRows
import Derived.Test.YtadodccciejghaaLst
import Derived.Test.YtadodccciejghaaLst2
import Derived.Test.YtadodccciejghaaBlk
import Derived.WalkKit
import Derived.OwnWalk
import Derived.Lib.Hide
import Derived.BigQuiet
namespace Go.Proofs.Ytadodccciejghaa
open Go.RowKit
set_option maxRecDepth 100000

theorem get_run (s : ByteArray) (a : Nat) (h : a < s.size) : ∀ wx : World, (Instr.index 9 (.string s) (.int .i64 (a : Int))).run Try.prog wx = .ok (.int .u8 (s[a].toNat : Int)) wx := fun wx => by
  rw [run_index_string wx 9 s .i64 (a : Int) Try.underlying9]
  simp [h]

theorem all_no (p : UInt8 → Bool) (s : ByteArray) (k : Nat) (h : k < s.size) (hp : p s[k] = false) : s.data.toList.all p = false := by
  rw [Bool.eq_false_iff]
  intro ha
  have := List.all_eq_true.1 ha s[k] (List.getElem_mem (l := s.data.toList) (by simpa using h))
  rw [hp] at this
  cases this

theorem all_yes (p : UInt8 → Bool) (s : ByteArray) (h : ∀ j, (hj : j < s.size) → p s[j] = true) : s.data.toList.all p = true := by
  rw [List.all_eq_true]
  intro c hc
  obtain ⟨j, hj, rfl⟩ := List.mem_iff_getElem.1 hc
  exact h j (by simpa using hj)

theorem all_at (p : UInt8 → Bool) (s : ByteArray) (h : s.data.toList.all p = true) (j : Nat) (hj : j < s.size) : p s[j] = true :=
  List.all_eq_true.1 h s[j] (List.getElem_mem (l := s.data.toList) (by simpa using hj))


set_option maxHeartbeats 1000000 in
theorem name_any (s : ByteArray) (w : World) : Calls Try.prog 66 #[.string s] w fun e w' => e = .returned (.bool (nameB s)) ∧ w = w' := by
  by_cases h1 : (s.size : Int) < 1
  · have hr : nameB s = false := by unfold nameB; rw [decide_eq_false (by omega)]; rfl
    rw [hr]
    clear hr
    go_enter Try.func66, Try.ntmps66
    go_wp2
    go_ret
    exact ⟨rfl, rfl⟩
  · by_cases h2 : (40 : Int) < (s.size : Int)
    · have hr : nameB s = false := by unfold nameB; rw [decide_eq_false (show ¬ s.size ≤ 40 by omega)]; simp
      have h1' : decide ((s.size : Int) < 1) = false := decide_eq_false h1
      rw [hr]
      clear hr
      go_enter Try.func66, Try.ntmps66
      go_wp2
      go_ret
      exact ⟨rfl, rfl⟩
    · have hr : nameB s = s.data.toList.all seenB := by unfold nameB; rw [decide_eq_true (show 1 ≤ s.size by omega), decide_eq_true (show s.size ≤ 40 by omega)]; simp
      have h1' : decide ((s.size : Int) < 1) = false := decide_eq_false h1
      have h2' : decide ((40 : Int) < (s.size : Int)) = false := decide_eq_false h2
      rw [hr]
      clear hr
      obtain ⟨q, hq⟩ : ∃ q, s.data.toList.all seenB = q := ⟨_, rfl⟩
      rw [hq]
      have HQ := Lib.hid hq
      clear hq
      go_enter Try.func66, Try.ntmps66
      go_wp2
      go_loop [14] (fun i => ∃ k : Nat, k ≤ s.size ∧ i = .int .i64 (k : Int) ∧ Hid (∀ j, (hj : j < s.size) → j < k → seenB s[j] = true)) (fun i => s.size - (intOf i).toNat)
      case atStart => exact ⟨0, Nat.zero_le _, rfl, Lib.hid fun j _ h => absurd h (by omega)⟩
      case round =>
        obtain ⟨k, hk, rfl, hall⟩ := hrel
        by_cases hlt : k < s.size
        · have hlt' : (k : Int) < (s.size : Int) := by omega
          have hix := get_run s k hlt
          by_cases hs : seenB s[k] = true
          · have hn : ∀ j, (hj : j < s.size) → j < k + 1 → seenB s[j] = true := by
              intro j hj h
              by_cases hjk : j < k
              · exact hall.out j hj hjk
              · have : j = k := by omega
                subst this
                exact hs
            have HN := Lib.hid hn
            unfold seenB at hs
            simp only [Bool.and_eq_true, decide_eq_true_eq] at hs
            obtain ⟨a1, a2⟩ := hs
            have b1 : decide ((s[k].toNat : Int) < 33) = false := decide_eq_false (by omega)
            have b2 : decide ((126 : Int) < (s[k].toNat : Int)) = false := decide_eq_false (by omega)
            generalize (s[k].toNat : Int) = z at hix b1 b2
            clear hn hall a1 a2
            go_wp2
            refine ⟨⟨k + 1, by omega, by go_num, HN⟩, ?_⟩
            simp [intOf]; omega
          · have hf : seenB s[k] = false := by simpa using hs
            have hqf : q = false := by rw [← HQ.out]; exact all_no seenB s k hlt hf
            subst hqf
            unfold seenB at hf
            by_cases a1 : (s[k].toNat : Int) < 33
            · have b1 : decide ((s[k].toNat : Int) < 33) = true := decide_eq_true a1
              generalize (s[k].toNat : Int) = z at hix b1 a1
              clear hs hf hall HQ
              go_wp2
              go_ret
              exact ⟨rfl, by first | rfl | trivial⟩
            · have a2 : (126 : Int) < (s[k].toNat : Int) := by
                rw [decide_eq_true (show 33 ≤ s[k].toNat by omega)] at hf
                simp at hf
                omega
              have b1 : decide ((s[k].toNat : Int) < 33) = false := decide_eq_false a1
              generalize (s[k].toNat : Int) = z at hix b1 a1 a2
              clear hs hf hall HQ
              go_wp2
              go_ret
              exact ⟨rfl, by first | rfl | trivial⟩
        · have hge : (s.size : Int) ≤ (k : Int) := by omega
          have hqf : q = true := by rw [← HQ.out]; exact all_yes seenB s fun j hj => hall.out j hj (by omega)
          subst hqf
          clear hall HQ
          go_wp2
          go_ret
          exact ⟨rfl, by first | rfl | trivial⟩


set_option maxHeartbeats 1000000 in
theorem rname_any (s : ByteArray) (w : World) (hss : s.size ≤ 100000) : Calls Try.prog 94 #[.string s] w fun e w' => e = .returned (.bool (nameB s)) ∧ w = w' := by
  obtain ⟨q, hq⟩ : ∃ q, nameB s = q := ⟨_, rfl⟩
  rw [hq]
  have HQ := Lib.hid hq
  clear hq
  go_enter Try.func94, Try.ntmps94
  go_wp2
  go_loop [3] (fun i => ∃ k : Nat, k ≤ s.size ∧ i = .int .i64 (k : Int) ∧ Hid (∀ j, (hj : j < s.size) → j < k → seenB s[j] = true)) (fun i => s.size - (intOf i).toNat)
  case atStart => exact ⟨0, Nat.zero_le _, rfl, Lib.hid fun j _ h => absurd h (by omega)⟩
  case round =>
    obtain ⟨k, hk, rfl, hall⟩ := hrel
    by_cases hlt : k < s.size
    · have hlt' : (k : Int) < (s.size : Int) := by omega
      have hix := get_run s k hlt
      by_cases hs : seenB s[k] = true
      · have hn : ∀ j, (hj : j < s.size) → j < k + 1 → seenB s[j] = true := by
          intro j hj h
          by_cases hjk : j < k
          · exact hall.out j hj hjk
          · have : j = k := by omega
            subst this
            exact hs
        have HN := Lib.hid hn
        unfold seenB at hs
        simp only [Bool.and_eq_true, decide_eq_true_eq] at hs
        obtain ⟨a1, a2⟩ := hs
        have b1 : decide ((s[k].toNat : Int) < 33) = false := decide_eq_false (by omega)
        have b2 : decide ((126 : Int) < (s[k].toNat : Int)) = false := decide_eq_false (by omega)
        generalize (s[k].toNat : Int) = z at hix b1 b2
        clear hn hall a1 a2
        go_wp2
        refine ⟨⟨k + 1, by omega, by go_num, HN⟩, ?_⟩
        simp [intOf]; omega
      · have hf : seenB s[k] = false := by simpa using hs
        have hqf : q = false := by rw [← HQ.out]; unfold nameB; rw [all_no seenB s k hlt hf]; simp
        subst hqf
        unfold seenB at hf
        by_cases a1 : (s[k].toNat : Int) < 33
        · have b1 : decide ((s[k].toNat : Int) < 33) = true := decide_eq_true a1
          generalize (s[k].toNat : Int) = z at hix b1 a1
          clear hs hf hall HQ
          go_wp2
          go_ret
          exact ⟨rfl, by first | rfl | trivial⟩
        · have a2 : (126 : Int) < (s[k].toNat : Int) := by
            rw [decide_eq_true (show 33 ≤ s[k].toNat by omega)] at hf
            simp at hf
            omega
          have b1 : decide ((s[k].toNat : Int) < 33) = false := decide_eq_false a1
          generalize (s[k].toNat : Int) = z at hix b1 a1 a2
          clear hs hf hall HQ
          go_wp2
          go_ret
          exact ⟨rfl, by first | rfl | trivial⟩
    · have hge : (s.size : Int) ≤ (k : Int) := by omega
      have hqf : q = (decide (1 ≤ s.size) && (decide (s.size ≤ 40) && true)) := by rw [← HQ.out]; unfold nameB; rw [all_yes seenB s fun j hj => hall.out j hj (by omega)]
      by_cases c1 : (1 : Int) ≤ (s.size : Int)
      · by_cases c2 : (s.size : Int) ≤ 40
        · rw [decide_eq_true (show 1 ≤ s.size by omega), decide_eq_true (show s.size ≤ 40 by omega)] at hqf
          subst hqf
          clear hall HQ
          go_wp2
          go_ret
          exact ⟨rfl, by first | rfl | trivial⟩
        · rw [decide_eq_true (show 1 ≤ s.size by omega), decide_eq_false (show ¬ s.size ≤ 40 by omega)] at hqf
          subst hqf
          clear hall HQ
          go_wp2
          go_ret
          exact ⟨rfl, by first | rfl | trivial⟩
      · rw [decide_eq_false (show ¬ 1 ≤ s.size by omega)] at hqf
        subst hqf
        have c1' : decide ((1 : Int) ≤ (s.size : Int)) = false := decide_eq_false c1
        clear hall HQ
        go_wp2
        go_ret
        exact ⟨rfl, by first | rfl | trivial⟩


def stc (s : ByteArray) : List Value := [.string s]

theorem stc_len (s : ByteArray) : (stc s).length = 1 := rfl

theorem bytes_inj (a b : ByteArray) (h : a.data.toList = b.data.toList) : a = b := by
  apply ByteArray.ext
  exact Array.ext' h

def usedB (used : List ByteArray) (s : ByteArray) : Bool := used.any fun y => y.data.toList == s.data.toList

theorem usedB_iff (used : List ByteArray) (s : ByteArray) : usedB used s = true ↔ s ∈ used := by
  unfold usedB
  simp only [List.any_eq_true, beq_iff_eq]
  constructor
  · rintro ⟨y, hy, he⟩
    rw [← bytes_inj _ _ he]
    exact hy
  · intro h
    exact ⟨_, h, rfl⟩

theorem tl_eq (x y : ByteArray) : (x.toList == y.toList) = (x.data.toList == y.data.toList) := by
  rw [ByteArray.toList_eq, ByteArray.toList_eq]

theorem tl_self (x : ByteArray) : (x.toList == x.toList) = true := by simp

theorem tl_ne (x y : ByteArray) (h : x ≠ y) : (x.toList == y.toList) = false := by
  rw [tl_eq, beq_eq_false_iff_ne]
  exact fun e => h (bytes_inj _ _ e)


theorem usedB_no (used : List ByteArray) (s : ByteArray) (h : s ∉ used) : usedB used s = false := by
  cases hu : usedB used s
  · rfl
  · exact absurd ((usedB_iff used s).1 hu) h


set_option maxHeartbeats 1000000 in
theorem has_any (l : List ByteArray) (v : Value) (s : ByteArray) (w : World) (hl : l.length ≤ 100000) (ht : Lst stc w v l) :
    Calls Try.prog 33 #[v, .string s] w fun e w' => e = .returned (.bool (usedB l s)) ∧ w = w' := by
  have HT := Lib.hid ht
  obtain ⟨b, c, rfl⟩ := ht.slice
  clear ht
  obtain ⟨q, hq⟩ : ∃ q, usedB l s = q := ⟨_, rfl⟩
  rw [hq]
  have HQ := Lib.hid hq
  clear hq
  go_enter Try.func33, Try.ntmps33
  go_wp2
  go_loop [5] (fun i => ∃ k : Nat, k ≤ l.length ∧ i = .int .i64 (k : Int) ∧ Hid (∀ y ∈ l.take k, y ≠ s)) (fun i => l.length - (intOf i).toNat)
  case atStart => exact ⟨0, by omega, rfl, Lib.hid (by simp)⟩
  case round =>
    obtain ⟨k, hk, rfl, hall⟩ := hrel
    by_cases hlt : k < l.length
    · have hlt' : (k : Int) < (l.length : Int) := by omega
      obtain ⟨g, o, cc, x, hx, hv, hg, hc⟩ := HT.out.at_ stc_len hlt
      injection hv with hb _ hcc
      subst hb hcc
      have c0 := hc 0 (by omega)
      simp [stc] at c0
      by_cases he : x = s
      · have hqt : q = true := by rw [← HQ.out, usedB_iff, ← he]; exact List.mem_of_getElem? hx
        subst hqt
        have htl : (x.toList == s.toList) = true := by rw [he]; exact tl_self s
        clear hc hx he hall HQ
        go_wp2
        go_ret
        exact ⟨rfl, by first | rfl | trivial⟩
      · have htl : (x.toList == s.toList) = false := tl_ne x s he
        have hn : ∀ y ∈ l.take (k + 1), y ≠ s := by
          intro y hy
          rw [List.take_add_one, hx] at hy
          rcases List.mem_append.1 hy with hy | hy
          · exact hall.out y hy
          · simp at hy; rw [hy]; exact he
        have HN := Lib.hid hn
        clear hc hx he hall hn
        go_wp2
        refine ⟨⟨k + 1, by omega, by go_num, HN⟩, ?_⟩
        simp [intOf]; omega
    · have hge : (l.length : Int) ≤ (k : Int) := by omega
      have hqf : q = false := by
        rw [← HQ.out]
        refine usedB_no l s fun h => hall.out s ?_ rfl
        rw [List.take_of_length_le (by omega)]
        exact h
      subst hqf
      clear hall HQ
      go_wp2
      go_ret
      exact ⟨rfl, by first | rfl | trivial⟩


/-- are texts so few, and so short -/
def fewB (l : List ByteArray) (m : Nat) : Bool := (l.take (m + 1)).all (fun x => decide (x.size ≤ 60)) && decide (l.length ≤ m)
set_option maxHeartbeats 1000000 in
theorem few_any (l : List ByteArray) (v : Value) (m : Nat) (w : World) (hm : m ≤ 1000) (ht : Lst stc w v l) :
    Calls Try.prog 26 #[v, .int .i64 (m : Int)] w fun e w' => e = .returned (.bool (fewB l m)) ∧ w = w' := by
  have HT := Lib.hid ht
  obtain ⟨b, c, rfl⟩ := ht.slice
  clear ht
  obtain ⟨q, hq⟩ : ∃ q, fewB l m = q := ⟨_, rfl⟩
  rw [hq]
  have HQ := Lib.hid hq
  clear hq
  have hmi : (m : Int) ≤ 1000 := by omega
  go_enter Try.func26, Try.ntmps26
  go_wp2
  go_loop [5] (fun i => ∃ k : Nat, k ≤ l.length ∧ k ≤ m + 1 ∧ i = .int .i64 (k : Int) ∧ Hid (∀ y ∈ l.take k, y.size ≤ 60)) (fun i => l.length - (intOf i).toNat)
  case atStart => exact ⟨0, by omega, by omega, rfl, Lib.hid (by simp)⟩
  case round =>
    obtain ⟨k, hk, hkm, rfl, hall⟩ := hrel
    by_cases hlt : k < l.length
    · have hlt' : (k : Int) < (l.length : Int) := by omega
      by_cases hle : k ≤ m
      · have hle' : (k : Int) ≤ (m : Int) := by omega
        obtain ⟨g, o, cc, x, hx, hv, hg, hc⟩ := HT.out.at_ stc_len hlt
        injection hv with hb _ hcc
        subst hb hcc
        have c0 : w.cell? ⟨g, o + k, none⟩ = some (.string x) := by have := hc 0 (by omega); simpa [stc] using this
        by_cases h60 : (60 : Int) < (x.size : Int)
        · have hqf : q = false := by
            rw [← HQ.out]
            unfold fewB
            rw [Bool.and_eq_false_iff]
            refine .inl (List.all_eq_false.2 ⟨x, List.mem_of_getElem? (i := k) (by rw [List.getElem?_take, if_pos (by omega)]; exact hx), by simp; omega⟩)
          subst hqf
          clear hc hx hall HQ
          go_wp2
          go_ret
          exact ⟨rfl, by first | rfl | trivial⟩
        · have h60' : decide ((60 : Int) < (x.size : Int)) = false := decide_eq_false h60
          have hn : ∀ y ∈ l.take (k + 1), y.size ≤ 60 := by
            intro y hy
            rw [List.take_add_one, hx] at hy
            rcases List.mem_append.1 hy with hy | hy
            · exact hall.out y hy
            · simp at hy; rw [hy]; omega
          have HN := Lib.hid hn
          clear hc hx hall hn
          go_wp2
          refine ⟨⟨k + 1, by omega, by omega, by go_num, HN⟩, ?_⟩
          simp [intOf]; omega
      · have hle' : decide ((k : Int) ≤ (m : Int)) = false := decide_eq_false (by omega)
        have hqf : q = false := by
          rw [← HQ.out]
          unfold fewB
          rw [Bool.and_eq_false_iff]
          exact .inr (decide_eq_false (by omega))
        have hlm : decide (l.length ≤ m) = false := decide_eq_false (by omega)
        subst hqf
        clear hall HQ
        go_wp2
        go_ret
        exact ⟨rfl, by first | rfl | trivial⟩
    · have hge : (l.length : Int) ≤ (k : Int) := by omega
      have hkl : k = l.length := by omega
      have hqv : q = decide (l.length ≤ m) := by
        rw [← HQ.out]
        unfold fewB
        have h1 : (l.take (m + 1)).all (fun x => decide (x.size ≤ 60)) = true := List.all_eq_true.2 fun y hy => by
          have := hall.out y (by rw [List.take_of_length_le (by omega)]; exact List.mem_of_mem_take hy)
          simpa using this
        rw [h1, Bool.true_and]
      clear hkl
      by_cases hlm : (l.length : Int) ≤ (m : Int)
      · rw [decide_eq_true (by omega)] at hqv
        subst hqv
        clear hall HQ
        go_wp2
        go_ret
        exact ⟨rfl, by first | rfl | trivial⟩
      · rw [decide_eq_false (by omega)] at hqv
        have hlm' : decide (l.length ≤ m) = false := decide_eq_false (by omega)
        subst hqv
        clear hall HQ
        go_wp2
        go_ret
        exact ⟨rfl, by first | rfl | trivial⟩

set_option maxHeartbeats 1000000 in
theorem rnames_any (l : List ByteArray) (v : Value) (w : World) (hl : l.length ≤ 100000) (hz : ∀ x ∈ l, x.size ≤ 100000) (ht : Lst stc w v l) :
    Calls Try.prog 59 #[v] w fun e w' => e = .returned (.bool (l.all nameB)) ∧ w = w' := by
  have HT := Lib.hid ht
  obtain ⟨b, c, rfl⟩ := ht.slice
  clear ht
  obtain ⟨q, hq⟩ : ∃ q, l.all nameB = q := ⟨_, rfl⟩
  rw [hq]
  have HQ := Lib.hid hq
  have HZ := Lib.hid hz
  clear hq hz
  go_enter Try.func59, Try.ntmps59
  go_wp2
  go_loop [3] (fun i => ∃ k : Nat, k ≤ l.length ∧ i = .int .i64 (k : Int) ∧ Hid (∀ y ∈ l.take k, nameB y = true)) (fun i => l.length - (intOf i).toNat)
  case atStart => exact ⟨0, by omega, rfl, Lib.hid (by simp)⟩
  case round =>
    obtain ⟨k, hk, rfl, hall⟩ := hrel
    by_cases hlt : k < l.length
    · have hlt' : (k : Int) < (l.length : Int) := by omega
      obtain ⟨g, o, cc, x, hx, hv, hg, hc⟩ := HT.out.at_ stc_len hlt
      injection hv with hb _ hcc
      subst hb hcc
      have c0 : w.cell? ⟨g, o + k, none⟩ = some (.string x) := by have := hc 0 (by omega); simpa [stc] using this
      have hxz := HZ.out x (List.mem_of_getElem? hx)
      cases hn : nameB x
      · have hqf : q = false := by
          rw [← HQ.out]
          exact List.all_eq_false.2 ⟨x, List.mem_of_getElem? hx, by simp [hn]⟩
        have HN := Lib.hid hn
        subst hqf
        clear hc hx hall HQ hn
        go_wp2_with fail
        refine (rname_any x _ hxz).mono ?_
        rw [HN.out]
        rintro e w' ⟨rfl, rfl⟩
        go_wp2
        go_ret
        exact ⟨rfl, by first | rfl | trivial⟩
      · have hnx : ∀ y ∈ l.take (k + 1), nameB y = true := by
          intro y hy
          rw [List.take_add_one, hx] at hy
          rcases List.mem_append.1 hy with hy | hy
          · exact hall.out y hy
          · simp at hy; rw [hy]; exact hn
        have HX := Lib.hid hnx
        have HN := Lib.hid hn
        clear hc hx hall hn hnx
        go_wp2_with fail
        refine (rname_any x _ hxz).mono ?_
        rw [HN.out]
        rintro e w' ⟨rfl, rfl⟩
        go_wp2
        refine ⟨⟨k + 1, by omega, by go_num, HX⟩, ?_⟩
        simp [intOf]; omega
    · have hge : (l.length : Int) ≤ (k : Int) := by omega
      have hqt : q = true := by
        rw [← HQ.out]
        exact List.all_eq_true.2 fun y hy => hall.out y (by rw [List.take_of_length_le (by omega)]; exact hy)
      subst hqt
      clear hall HQ
      go_wp2
      go_ret
      exact ⟨rfl, by first | rfl | trivial⟩
end Go.Proofs.Ytadodccciejghaa
