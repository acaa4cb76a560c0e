/- Names; rows of texts: has one; are they few; are they alike; a copy. -/
import Derived.Test.YtfkmolbcgnkfdaaDoorGen
import Derived.Test.YtfkmolbcgnkfdaaDoorRows
import Derived.WalkKit
import Derived.Lib.Hide
import Derived.BigQuiet
import Derived.Laws.Pointers
import Derived.Lib.SliceRun
namespace Go.Proofs.YtfkmolbcgnkfdaaDoor
open Go.RowKit
set_option maxRecDepth 100000

theorem get_run (s : ByteArray) (a : Nat) (h : a < s.size) : ∀ wx : World, (Instr.index 9 (.string s) (.int .i64 (a : Int))).run Tryd.prog wx = .ok (.int .u8 (s[a].toNat : Int)) wx := fun wx => by
  rw [run_index_string wx 9 s .i64 (a : Int) Tryd.underlying9]
  simp [h]

theorem all_no (p : UInt8 → Bool) (s : ByteArray) (k : Nat) (h : k < s.size) (hp : p s[k] = false) : s.data.toList.all p = false := by
  rw [Bool.eq_false_iff]
  intro ha
  have := List.all_eq_true.1 ha s[k] (List.getElem_mem (l := s.data.toList) (by simpa using h))
  rw [hp] at this
  cases this

theorem all_yes (p : UInt8 → Bool) (s : ByteArray) (h : ∀ j, (hj : j < s.size) → p s[j] = true) : s.data.toList.all p = true := by
  rw [List.all_eq_true]
  intro c hc
  obtain ⟨j, hj, rfl⟩ := List.mem_iff_getElem.1 hc
  exact h j (by simpa using hj)

theorem all_at (p : UInt8 → Bool) (s : ByteArray) (h : s.data.toList.all p = true) (j : Nat) (hj : j < s.size) : p s[j] = true :=
  List.all_eq_true.1 h s[j] (List.getElem_mem (l := s.data.toList) (by simpa using hj))

set_option maxHeartbeats 1000000 in
theorem name_any (s : ByteArray) (w : World) : Calls Tryd.prog 87 #[.string s] w fun e w' => e = .returned (.bool (nameB s)) ∧ w = w' := by
  by_cases h1 : (s.size : Int) < 1
  · have hr : nameB s = false := by unfold nameB; rw [decide_eq_false (by omega)]; rfl
    rw [hr]
    clear hr
    go_enter Tryd.func87, Tryd.ntmps87
    go_wp2
    go_ret
    exact ⟨rfl, rfl⟩
  · by_cases h2 : (40 : Int) < (s.size : Int)
    · have hr : nameB s = false := by unfold nameB; rw [decide_eq_false (show ¬ s.size ≤ 40 by omega)]; simp
      have h1' : decide ((s.size : Int) < 1) = false := decide_eq_false h1
      rw [hr]
      clear hr
      go_enter Tryd.func87, Tryd.ntmps87
      go_wp2
      go_ret
      exact ⟨rfl, rfl⟩
    · have hr : nameB s = s.data.toList.all seenB := by unfold nameB; rw [decide_eq_true (show 1 ≤ s.size by omega), decide_eq_true (show s.size ≤ 40 by omega)]; simp
      have h1' : decide ((s.size : Int) < 1) = false := decide_eq_false h1
      have h2' : decide ((40 : Int) < (s.size : Int)) = false := decide_eq_false h2
      rw [hr]
      clear hr
      obtain ⟨q, hq⟩ : ∃ q, s.data.toList.all seenB = q := ⟨_, rfl⟩
      rw [hq]
      have HQ := Lib.hid hq
      clear hq
      go_enter Tryd.func87, Tryd.ntmps87
      go_wp2
      go_loop [14] (fun i => ∃ k : Nat, k ≤ s.size ∧ i = .int .i64 (k : Int) ∧ Hid (∀ j, (hj : j < s.size) → j < k → seenB s[j] = true)) (fun i => s.size - (intOf i).toNat)
      case atStart => exact ⟨0, Nat.zero_le _, rfl, Lib.hid fun j _ h => absurd h (by omega)⟩
      case round =>
        obtain ⟨k, hk, rfl, hall⟩ := hrel
        by_cases hlt : k < s.size
        · have hlt' : (k : Int) < (s.size : Int) := by omega
          have hix := get_run s k hlt
          by_cases hs : seenB s[k] = true
          · have hn : ∀ j, (hj : j < s.size) → j < k + 1 → seenB s[j] = true := by
              intro j hj h
              by_cases hjk : j < k
              · exact hall.out j hj hjk
              · have : j = k := by omega
                subst this
                exact hs
            have HN := Lib.hid hn
            unfold seenB at hs
            simp only [Bool.and_eq_true, decide_eq_true_eq] at hs
            obtain ⟨a1, a2⟩ := hs
            have b1 : decide ((s[k].toNat : Int) < 33) = false := decide_eq_false (by omega)
            have b2 : decide ((126 : Int) < (s[k].toNat : Int)) = false := decide_eq_false (by omega)
            generalize (s[k].toNat : Int) = z at hix b1 b2
            clear hn hall a1 a2
            go_wp2
            refine ⟨⟨k + 1, by omega, by go_num, HN⟩, ?_⟩
            simp [intOf]; omega
          · have hf : seenB s[k] = false := by simpa using hs
            have hqf : q = false := by rw [← HQ.out]; exact all_no seenB s k hlt hf
            subst hqf
            unfold seenB at hf
            by_cases a1 : (s[k].toNat : Int) < 33
            · have b1 : decide ((s[k].toNat : Int) < 33) = true := decide_eq_true a1
              generalize (s[k].toNat : Int) = z at hix b1 a1
              clear hs hf hall HQ
              go_wp2
              go_ret
              exact ⟨rfl, by first | rfl | trivial⟩
            · have a2 : (126 : Int) < (s[k].toNat : Int) := by
                rw [decide_eq_true (show 33 ≤ s[k].toNat by omega)] at hf
                simp at hf
                omega
              have b1 : decide ((s[k].toNat : Int) < 33) = false := decide_eq_false a1
              generalize (s[k].toNat : Int) = z at hix b1 a1 a2
              clear hs hf hall HQ
              go_wp2
              go_ret
              exact ⟨rfl, by first | rfl | trivial⟩
        · have hge : (s.size : Int) ≤ (k : Int) := by omega
          have hqf : q = true := by rw [← HQ.out]; exact all_yes seenB s fun j hj => hall.out j hj (by omega)
          subst hqf
          clear hall HQ
          go_wp2
          go_ret
          exact ⟨rfl, by first | rfl | trivial⟩

set_option maxHeartbeats 1000000 in
theorem rname_any (s : ByteArray) (w : World) (hss : s.size ≤ 100000) : Calls Tryd.prog 52 #[.string s] w fun e w' => e = .returned (.bool (nameB s)) ∧ w = w' := by
  obtain ⟨q, hq⟩ : ∃ q, nameB s = q := ⟨_, rfl⟩
  rw [hq]
  have HQ := Lib.hid hq
  clear hq
  go_enter Tryd.func52, Tryd.ntmps52
  go_wp2
  go_loop [3] (fun i => ∃ k : Nat, k ≤ s.size ∧ i = .int .i64 (k : Int) ∧ Hid (∀ j, (hj : j < s.size) → j < k → seenB s[j] = true)) (fun i => s.size - (intOf i).toNat)
  case atStart => exact ⟨0, Nat.zero_le _, rfl, Lib.hid fun j _ h => absurd h (by omega)⟩
  case round =>
    obtain ⟨k, hk, rfl, hall⟩ := hrel
    by_cases hlt : k < s.size
    · have hlt' : (k : Int) < (s.size : Int) := by omega
      have hix := get_run s k hlt
      by_cases hs : seenB s[k] = true
      · have hn : ∀ j, (hj : j < s.size) → j < k + 1 → seenB s[j] = true := by
          intro j hj h
          by_cases hjk : j < k
          · exact hall.out j hj hjk
          · have : j = k := by omega
            subst this
            exact hs
        have HN := Lib.hid hn
        unfold seenB at hs
        simp only [Bool.and_eq_true, decide_eq_true_eq] at hs
        obtain ⟨a1, a2⟩ := hs
        have b1 : decide ((s[k].toNat : Int) < 33) = false := decide_eq_false (by omega)
        have b2 : decide ((126 : Int) < (s[k].toNat : Int)) = false := decide_eq_false (by omega)
        generalize (s[k].toNat : Int) = z at hix b1 b2
        clear hn hall a1 a2
        go_wp2
        refine ⟨⟨k + 1, by omega, by go_num, HN⟩, ?_⟩
        simp [intOf]; omega
      · have hf : seenB s[k] = false := by simpa using hs
        have hqf : q = false := by rw [← HQ.out]; unfold nameB; rw [all_no seenB s k hlt hf]; simp
        subst hqf
        unfold seenB at hf
        by_cases a1 : (s[k].toNat : Int) < 33
        · have b1 : decide ((s[k].toNat : Int) < 33) = true := decide_eq_true a1
          generalize (s[k].toNat : Int) = z at hix b1 a1
          clear hs hf hall HQ
          go_wp2
          go_ret
          exact ⟨rfl, by first | rfl | trivial⟩
        · have a2 : (126 : Int) < (s[k].toNat : Int) := by
            rw [decide_eq_true (show 33 ≤ s[k].toNat by omega)] at hf
            simp at hf
            omega
          have b1 : decide ((s[k].toNat : Int) < 33) = false := decide_eq_false a1
          generalize (s[k].toNat : Int) = z at hix b1 a1 a2
          clear hs hf hall HQ
          go_wp2
          go_ret
          exact ⟨rfl, by first | rfl | trivial⟩
    · have hge : (s.size : Int) ≤ (k : Int) := by omega
      have hqf : q = (decide (1 ≤ s.size) && (decide (s.size ≤ 40) && true)) := by rw [← HQ.out]; unfold nameB; rw [all_yes seenB s fun j hj => hall.out j hj (by omega)]
      by_cases c1 : (1 : Int) ≤ (s.size : Int)
      · by_cases c2 : (s.size : Int) ≤ 40
        · rw [decide_eq_true (show 1 ≤ s.size by omega), decide_eq_true (show s.size ≤ 40 by omega)] at hqf
          subst hqf
          clear hall HQ
          go_wp2
          go_ret
          exact ⟨rfl, by first | rfl | trivial⟩
        · rw [decide_eq_true (show 1 ≤ s.size by omega), decide_eq_false (show ¬ s.size ≤ 40 by omega)] at hqf
          subst hqf
          clear hall HQ
          go_wp2
          go_ret
          exact ⟨rfl, by first | rfl | trivial⟩
      · rw [decide_eq_false (show ¬ 1 ≤ s.size by omega)] at hqf
        subst hqf
        have c1' : decide ((1 : Int) ≤ (s.size : Int)) = false := decide_eq_false c1
        clear hall HQ
        go_wp2
        go_ret
        exact ⟨rfl, by first | rfl | trivial⟩

set_option maxHeartbeats 1000000 in
theorem has_any (l : List ByteArray) (v : Value) (s : ByteArray) (w : World) (hl : l.length ≤ 100000) (ht : Lst stc w v l) :
    Calls Tryd.prog 43 #[v, .string s] w fun e w' => e = .returned (.bool (usedB l s)) ∧ w = w' := by
  have HT := Lib.hid ht
  obtain ⟨b, c, rfl⟩ := ht.slice
  clear ht
  obtain ⟨q, hq⟩ : ∃ q, usedB l s = q := ⟨_, rfl⟩
  rw [hq]
  have HQ := Lib.hid hq
  clear hq
  go_enter Tryd.func43, Tryd.ntmps43
  go_wp2
  go_loop [5] (fun i => ∃ k : Nat, k ≤ l.length ∧ i = .int .i64 (k : Int) ∧ Hid (∀ y ∈ l.take k, y ≠ s)) (fun i => l.length - (intOf i).toNat)
  case atStart => exact ⟨0, by omega, rfl, Lib.hid (by simp)⟩
  case round =>
    obtain ⟨k, hk, rfl, hall⟩ := hrel
    by_cases hlt : k < l.length
    · have hlt' : (k : Int) < (l.length : Int) := by omega
      obtain ⟨g, o, cc, x, hx, hv, hg, hc⟩ := HT.out.at_ stc_len hlt
      injection hv with hb _ hcc
      subst hb hcc
      have c0 := hc 0 (by omega)
      simp [stc] at c0
      by_cases he : x = s
      · have hqt : q = true := by rw [← HQ.out, usedB_iff, ← he]; exact List.mem_of_getElem? hx
        subst hqt
        have htl : (x.toList == s.toList) = true := by rw [he]; exact tl_self s
        clear hc hx he hall HQ
        go_wp2
        go_ret
        exact ⟨rfl, by first | rfl | trivial⟩
      · have htl : (x.toList == s.toList) = false := tl_ne x s he
        have hn : ∀ y ∈ l.take (k + 1), y ≠ s := by
          intro y hy
          rw [List.take_add_one, hx] at hy
          rcases List.mem_append.1 hy with hy | hy
          · exact hall.out y hy
          · simp at hy; rw [hy]; exact he
        have HN := Lib.hid hn
        clear hc hx he hall hn
        go_wp2
        refine ⟨⟨k + 1, by omega, by go_num, HN⟩, ?_⟩
        simp [intOf]; omega
    · have hge : (l.length : Int) ≤ (k : Int) := by omega
      have hqf : q = false := by
        rw [← HQ.out]
        refine usedB_no l s fun h => hall.out s ?_ rfl
        rw [List.take_of_length_le (by omega)]
        exact h
      subst hqf
      clear hall HQ
      go_wp2
      go_ret
      exact ⟨rfl, by first | rfl | trivial⟩

/-- are texts so few, and so short -/
def fewB (l : List ByteArray) (m : Nat) : Bool := (l.take (m + 1)).all (fun x => decide (x.size ≤ 60)) && decide (l.length ≤ m)

theorem below_drewN {B : Nat} {w W : World} (h : Below B w W) (n : Nat) : Below B w (W.drewN n) := ⟨h.os, h.tape, h.output, h.size, h.block⟩

set_option maxHeartbeats 1000000 in
theorem few_any (l : List ByteArray) (v : Value) (m : Nat) (w : World) (hm : m ≤ 1000) (ht : Lst stc w v l) :
    Calls Tryd.prog 38 #[v, .int .i64 (m : Int)] w fun e w' => e = .returned (.bool (fewB l m)) ∧ w = w' := by
  have HT := Lib.hid ht
  obtain ⟨b, c, rfl⟩ := ht.slice
  clear ht
  obtain ⟨q, hq⟩ : ∃ q, fewB l m = q := ⟨_, rfl⟩
  rw [hq]
  have HQ := Lib.hid hq
  clear hq
  have hmi : (m : Int) ≤ 1000 := by omega
  go_enter Tryd.func38, Tryd.ntmps38
  go_wp2
  go_loop [5] (fun i => ∃ k : Nat, k ≤ l.length ∧ k ≤ m + 1 ∧ i = .int .i64 (k : Int) ∧ Hid (∀ y ∈ l.take k, y.size ≤ 60)) (fun i => l.length - (intOf i).toNat)
  case atStart => exact ⟨0, by omega, by omega, rfl, Lib.hid (by simp)⟩
  case round =>
    obtain ⟨k, hk, hkm, rfl, hall⟩ := hrel
    by_cases hlt : k < l.length
    · have hlt' : (k : Int) < (l.length : Int) := by omega
      by_cases hle : k ≤ m
      · have hle' : (k : Int) ≤ (m : Int) := by omega
        obtain ⟨g, o, cc, x, hx, hv, hg, hc⟩ := HT.out.at_ stc_len hlt
        injection hv with hb _ hcc
        subst hb hcc
        have c0 : w.cell? ⟨g, o + k, none⟩ = some (.string x) := by have := hc 0 (by omega); simpa [stc] using this
        by_cases h60 : (60 : Int) < (x.size : Int)
        · have hqf : q = false := by
            rw [← HQ.out]
            unfold fewB
            rw [Bool.and_eq_false_iff]
            refine .inl (List.all_eq_false.2 ⟨x, List.mem_of_getElem? (i := k) (by rw [List.getElem?_take, if_pos (by omega)]; exact hx), by simp; omega⟩)
          subst hqf
          clear hc hx hall HQ
          go_wp2
          go_ret
          exact ⟨rfl, by first | rfl | trivial⟩
        · have h60' : decide ((60 : Int) < (x.size : Int)) = false := decide_eq_false h60
          have hn : ∀ y ∈ l.take (k + 1), y.size ≤ 60 := by
            intro y hy
            rw [List.take_add_one, hx] at hy
            rcases List.mem_append.1 hy with hy | hy
            · exact hall.out y hy
            · simp at hy; rw [hy]; omega
          have HN := Lib.hid hn
          clear hc hx hall hn
          go_wp2
          refine ⟨⟨k + 1, by omega, by omega, by go_num, HN⟩, ?_⟩
          simp [intOf]; omega
      · have hle' : decide ((k : Int) ≤ (m : Int)) = false := decide_eq_false (by omega)
        have hqf : q = false := by
          rw [← HQ.out]
          unfold fewB
          rw [Bool.and_eq_false_iff]
          exact .inr (decide_eq_false (by omega))
        have hlm : decide (l.length ≤ m) = false := decide_eq_false (by omega)
        subst hqf
        clear hall HQ
        go_wp2
        go_ret
        exact ⟨rfl, by first | rfl | trivial⟩
    · have hge : (l.length : Int) ≤ (k : Int) := by omega
      have hkl : k = l.length := by omega
      have hqv : q = decide (l.length ≤ m) := by
        rw [← HQ.out]
        unfold fewB
        have h1 : (l.take (m + 1)).all (fun x => decide (x.size ≤ 60)) = true := List.all_eq_true.2 fun y hy => by
          have := hall.out y (by rw [List.take_of_length_le (by omega)]; exact List.mem_of_mem_take hy)
          simpa using this
        rw [h1, Bool.true_and]
      clear hkl
      by_cases hlm : (l.length : Int) ≤ (m : Int)
      · rw [decide_eq_true (by omega)] at hqv
        subst hqv
        clear hall HQ
        go_wp2
        go_ret
        exact ⟨rfl, by first | rfl | trivial⟩
      · rw [decide_eq_false (by omega)] at hqv
        have hlm' : decide (l.length ≤ m) = false := decide_eq_false (by omega)
        subst hqv
        clear hall HQ
        go_wp2
        go_ret
        exact ⟨rfl, by first | rfl | trivial⟩

set_option maxHeartbeats 1000000 in
theorem texts_any (l m : List ByteArray) (v u : Value) (w : World) (hl : l.length ≤ 100000) (_ : m.length ≤ 100000) (ht : Lst stc w v l) (hu : Lst stc w u m) :
    Calls Tryd.prog 17 #[v, u] w fun e w' => e = .returned (.bool (eqL stEq l m)) ∧ Below w.heap.size w w' := by
  have HH := Lib.hid ht
  have HH' := Lib.hid hu
  obtain ⟨b, c, rfl⟩ := ht.slice
  obtain ⟨b', c', rfl⟩ := hu.slice
  clear ht hu
  by_cases hne : l.length ≠ m.length
  · have hr := eqL_len (q := stEq) l m hne
    have hneb : ((l.length : Int) == (m.length : Int)) = false := by rw [beq_eq_false_iff_ne]; omega
    rw [hr]
    clear hr hne
    go_enter Tryd.func17, Tryd.ntmps17
    go_wp2
    go_ret
    exact ⟨rfl, Below.refl _ _⟩
  · have hlm : m.length = l.length := by omega
    rw [hlm]
    have HLM := Lib.hid hlm
    clear hlm hne
    go_enter Tryd.func17, Tryd.ntmps17
    go_wp2
    go_loopw [5] (fun i wr => ∃ k : Nat, k ≤ l.length ∧ i = .int .i64 (k : Int) ∧ Below w.heap.size w wr ∧ Hid (∀ j x y, j < k → l[j]? = some x → m[j]? = some y → stEq x y = true)) (fun i _ => l.length - (intOf i).toNat)
    case atStart => exact ⟨0, by omega, rfl, Below.refl _ _, Lib.hid fun j x y h => absurd h (by omega)⟩
    case round =>
      obtain ⟨k, hk, rfl, hB, hall⟩ := hrel
      have HB := Lib.hid hB
      by_cases hlt : k < l.length
      · have hlt' : (k : Int) < (l.length : Int) := by omega
        obtain ⟨g, o, cc, x, hx, hv, hg, hc⟩ := HH.out.at_ stc_len hlt
        obtain ⟨g', o', cc', y, hy, hv', hg', hc'⟩ := HH'.out.at_ (k := k) stc_len (by rw [HLM.out]; exact hlt)
        injection hv with hb _ hcc
        subst hb hcc
        injection hv' with hb _ hcc
        subst hb hcc
        have c0 := (hB.cell (p := ⟨g, o + k * 1 + 0, none⟩) hg).trans (hc 0 (by omega))
        have d0 := (hB.cell (p := ⟨g', o' + k * 1 + 0, none⟩) hg').trans (hc' 0 (by omega))
        simp [stc] at c0 d0
        have HX1 := Lib.hid hx
        have HY1 := Lib.hid hy
        clear hc hc' hB hx hy
        cases hxy : stEq x y
        · have hr := eqL_no l m k x y HX1.out HY1.out hxy
          have HR := Lib.hid hr
          unfold stEq at hxy; have hxn : (x.toList != y.toList) = !(x.toList == y.toList) := rfl; rw [hxy] at hxn; simp only [Bool.not_false] at hxn; have hxy' := hxy
          clear hr hxy
          go_wp2_with fail
          go_quiet (fail)
          go_wp2
          go_ret
          rw [HR.out]
          exact ⟨rfl, below_drewN HB.out _⟩
        · have hn : ∀ j a b, j < k + 1 → l[j]? = some a → m[j]? = some b → stEq a b = true := by
            intro j a b hj h1 h2
            by_cases hjk : j < k
            · exact hall.out j a b hjk h1 h2
            · have : j = k := by omega
              subst this
              rw [HX1.out] at h1
              rw [HY1.out] at h2
              rw [← Option.some.inj h1, ← Option.some.inj h2]
              exact hxy
          have HN := Lib.hid hn
          unfold stEq at hxy; have hxn : (x.toList != y.toList) = !(x.toList == y.toList) := rfl; rw [hxy] at hxn; simp only [Bool.not_true] at hxn; have hxy' := hxy
          clear hn hxy
          go_wp2_with fail
          go_quiet (fail)
          go_wp2
          refine ⟨⟨k + 1, by omega, by go_num, below_drewN HB.out _, HN⟩, ?_⟩
          simp [intOf]; omega
      · have hge : (l.length : Int) ≤ (k : Int) := by omega
        have hr := eqL_all (q := stEq) l m HLM.out.symm (fun j x y h1 h2 => hall.out j x y (by have := (List.getElem?_eq_some_iff.1 h1).1; omega) h1 h2)
        have HR := Lib.hid hr
        clear hr hB
        go_wp2
        go_ret
        rw [HR.out]
        exact ⟨rfl, HB.out⟩

set_option maxHeartbeats 1000000 in
theorem equal_any (l m : List ByteArray) (v u : Value) (w : World) (hl : l.length ≤ 100000) (_ : m.length ≤ 100000) (ht : Lst stc w v l) (hu : Lst stc w u m) :
    Calls Tryd.prog 58 #[v, u] w fun e w' => e = .returned (.bool (eqL stEq l m)) ∧ Below w.heap.size w w' := by
  have HH := Lib.hid ht
  have HH' := Lib.hid hu
  obtain ⟨b, c, rfl⟩ := ht.slice
  obtain ⟨b', c', rfl⟩ := hu.slice
  clear ht hu
  by_cases hne : l.length ≠ m.length
  · have hr := eqL_len (q := stEq) l m hne
    have hneb : ((l.length : Int) == (m.length : Int)) = false := by rw [beq_eq_false_iff_ne]; omega
    rw [hr]
    clear hr hne
    go_enter Tryd.func58, Tryd.ntmps58
    go_wp2
    go_ret
    exact ⟨rfl, Below.refl _ _⟩
  · have hlm : m.length = l.length := by omega
    rw [hlm]
    have HLM := Lib.hid hlm
    clear hlm hne
    go_enter Tryd.func58, Tryd.ntmps58
    go_wp2
    go_loopw [13] (fun i wr => ∃ k : Nat, k ≤ l.length ∧ i = .int .i64 (k : Int) ∧ Below w.heap.size w wr ∧ Hid (∀ j x y, j < k → l[j]? = some x → m[j]? = some y → stEq x y = true)) (fun i _ => l.length - (intOf i).toNat)
    case atStart => exact ⟨0, by omega, rfl, Below.refl _ _, Lib.hid fun j x y h => absurd h (by omega)⟩
    case round =>
      obtain ⟨k, hk, rfl, hB, hall⟩ := hrel
      have HB := Lib.hid hB
      by_cases hlt : k < l.length
      · have hlt' : (k : Int) < (l.length : Int) := by omega
        obtain ⟨g, o, cc, x, hx, hv, hg, hc⟩ := HH.out.at_ stc_len hlt
        obtain ⟨g', o', cc', y, hy, hv', hg', hc'⟩ := HH'.out.at_ (k := k) stc_len (by rw [HLM.out]; exact hlt)
        injection hv with hb _ hcc
        subst hb hcc
        injection hv' with hb _ hcc
        subst hb hcc
        have c0 := (hB.cell (p := ⟨g, o + k * 1 + 0, none⟩) hg).trans (hc 0 (by omega))
        have d0 := (hB.cell (p := ⟨g', o' + k * 1 + 0, none⟩) hg').trans (hc' 0 (by omega))
        simp [stc] at c0 d0
        have HX1 := Lib.hid hx
        have HY1 := Lib.hid hy
        clear hc hc' hB hx hy
        cases hxy : stEq x y
        · have hr := eqL_no l m k x y HX1.out HY1.out hxy
          have HR := Lib.hid hr
          unfold stEq at hxy; have hxn : (x.toList != y.toList) = !(x.toList == y.toList) := rfl; rw [hxy] at hxn; simp only [Bool.not_false] at hxn; have hxy' := hxy
          clear hr hxy
          go_wp2_with fail
          go_quiet (fail)
          go_wp2
          go_ret
          rw [HR.out]
          exact ⟨rfl, below_drewN HB.out _⟩
        · have hn : ∀ j a b, j < k + 1 → l[j]? = some a → m[j]? = some b → stEq a b = true := by
            intro j a b hj h1 h2
            by_cases hjk : j < k
            · exact hall.out j a b hjk h1 h2
            · have : j = k := by omega
              subst this
              rw [HX1.out] at h1
              rw [HY1.out] at h2
              rw [← Option.some.inj h1, ← Option.some.inj h2]
              exact hxy
          have HN := Lib.hid hn
          unfold stEq at hxy; have hxn : (x.toList != y.toList) = !(x.toList == y.toList) := rfl; rw [hxy] at hxn; simp only [Bool.not_true] at hxn; have hxy' := hxy
          clear hn hxy
          go_wp2_with fail
          go_quiet (fail)
          go_wp2
          refine ⟨⟨k + 1, by omega, by go_num, below_drewN HB.out _, HN⟩, ?_⟩
          simp [intOf]; omega
      · have hge : (l.length : Int) ≤ (k : Int) := by omega
        have hr := eqL_all (q := stEq) l m HLM.out.symm (fun j x y h1 h2 => hall.out j x y (by have := (List.getElem?_eq_some_iff.1 h1).1; omega) h1 h2)
        have HR := Lib.hid hr
        clear hr hB
        go_wp2
        go_ret
        rw [HR.out]
        exact ⟨rfl, HB.out⟩

theorem info9 : (Tryd.prog.info? 9).map (fun i => (i.zero, i.size, i.bytes)) = some (some (.string ⟨#[]⟩), 1, 16) := by kernel_rfl

set_option maxHeartbeats 1000000 in
theorem clone_any (l : List ByteArray) (v : Value) (w : World) (hl : l.length ≤ 100000) (ht : Lst stc w v l) (hn : NilFine v) :
    Calls Tryd.prog 56 #[v] w fun e w' => ∃ v', e = .returned v' ∧ w'.ownsRow w.heap.size 9 1 v' l.length (l.flatMap stc) ∧ Below w.heap.size w w' := by
  obtain ⟨i0, hi, hz0, hz1, hz2⟩ := info_parts info9
  have HT := Lib.hid ht
  have HN := Lib.hid hn
  obtain ⟨b, c, rfl⟩ := ht.slice
  clear ht hn
  cases b with
  | none =>
    obtain ⟨h0, rfl⟩ := HN.out _ _ rfl
    have hl0 : l = [] := List.eq_nil_of_length_eq_zero h0
    clear h0
    subst hl0
    have hq := fun wx => Lib.run_eql_slice_nil (P := Tryd.prog) wx 22 9 none 0 0 0 0 Tryd.underlying22
    simp only [Option.isNone_none] at hq
    go_enter Tryd.func56, Tryd.ntmps56
    go_wp2
    go_ret
    exact ⟨_, rfl, ⟨rfl, .inl ⟨rfl, rfl⟩⟩, Below.refl _ _⟩
  | some ad =>
    have R0 := Lib.hid (World.ownsRow_lit (base := w.heap.size) (e := 9) (size := 1) w #[] 0 (Nat.le_refl _) (by decide) rfl)
    have D0 : Below w.heap.size w (w.alloc (.cells #[] 9)) := (Below.refl w.heap.size w).alloc (Nat.le_refl _) (.cells #[] 9)
    have DD := Lib.hid D0
    have VA := Lib.hid (HT.out.below D0)
    clear D0
    have hq := fun wx => Lib.run_eql_slice_nil (P := Tryd.prog) wx 22 9 (some ad) l.length c 0 0 Tryd.underlying22
    simp only [Option.isNone_some] at hq
    go_enter Tryd.func56, Tryd.ntmps56
    go_wp2_with (at_builtin; refine wpList_append_lst (ec := stc) rfl _ _ 22 rfl w.heap.size 9 i0 (.string ⟨#[]⟩) 1 16 Tryd.underlying22 hi hz0 hz1 hz2 rfl (by decide) _ 0 _ rfl R0.out _ l rfl VA.out HN.out stc_len (stc_one _) (by unfold maxLen; omega) (by omega) (by first | (simp; done) | (simp; omega) | omega) ?_; intro v1 w1 r1 g1)
    have D1 := Lib.hid (DD.out.grown g1 (by simp) (fun k e => by cases e; exact Nat.le_refl _))
    have hr : w1.ownsRow w.heap.size 9 1 v1 (0 + l.length) (l.flatMap stc) := by simpa using r1
    have L1 := Lib.hid (show w1.ownsRow w.heap.size 9 1 v1 l.length (l.flatMap stc) by rw [Nat.zero_add] at hr; exact hr)
    clear r1 g1 hr
    go_ret
    exact ⟨_, rfl, L1.out, D1.out⟩
end Go.Proofs.YtfkmolbcgnkfdaaDoor
