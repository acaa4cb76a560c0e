/- The document's answers, by definition: Get. -/
import Derived.Test.YtkemaaohmfdhbaaDoorRefs
namespace Go.Proofs.YtkemaaohmfdhbaaDoor
open Go.RowKit

/-- digits from a on up to b -/
def Digs (s : ByteArray) (a b : Nat) : Prop := ∀ j, (h : j < s.size) → a ≤ j → j < b → isDg s[j] = true
def seg (s : ByteArray) (a b : Nat) : List UInt8 := (s.data.toList.drop a).take (b - a)
theorem seg_succ (s : ByteArray) (a b : Nat) (hab : a ≤ b) (h : b < s.size) : seg s a (b + 1) = seg s a b ++ [s[b]] := by
  unfold seg
  rw [show b + 1 - a = (b - a) + 1 from by omega, List.take_succ_eq_append_getElem (by simp; omega)]
  congr 1
  rw [List.getElem_drop]
  have : s.data.toList[a + (b - a)]'(by simp; omega) = s[b] := by
    simp only [show a + (b - a) = b from by omega]; rfl
  rw [this]
/-- the number that the loop holds: no greater than one more than the greatest number -/
def cap (n : Nat) : Nat := min n 2147483648
theorem cap_step (l : List UInt8) (c : UInt8) (x : Int) (hx : x = (c.toNat : Int) - 48) (h : isDg c = true) : ((cap (dval (l ++ [c])) : Nat) : Int) = min (10 * ((cap (dval l) : Nat) : Int) + x) 2147483648 := by
  simp only [isDg, decide_eq_true_eq] at h
  rw [dval_snoc]
  unfold cap
  omega

theorem run_seg (s : ByteArray) (a b : Nat) (hab : a ≤ b) (hb : b ≤ s.size) (hd : Digs s a b) (hno : ∀ h : b < s.size, isDg s[b] = false) : run (s.data.toList.drop a) = seg s a b := by
  refine run_is _ (b - a) (by simp; omega) (fun j hj h' => ?_) (fun h => ?_)
  · rw [List.getElem_drop]
    exact hd (a + j) (by simp at h'; omega) (by omega) (by omega)
  · rw [List.getElem_drop]
    have hb' : b < s.size := by simp at h; omega
    have : s.data.toList[a + (b - a)]'(by simp; omega) = s[b] := by
      simp only [show a + (b - a) = b from by omega]; rfl
    rw [this]
    exact hno hb'

/-- no digit ahead that says nothing: as many digits, as great a number -/
theorem dval_ge : ∀ (k : Nat) (l : List UInt8), l.length = k + 1 → (∀ c ∈ l, isDg c = true) → l.head? ≠ some 48 → 10 ^ k ≤ dval l
  | 0, l, hl, hd, hh => by
    have := dval_pos l (fun e => by rw [e] at hl; simp at hl) hd hh
    simpa using this
  | k + 1, l, hl, hd, hh => by
    have hne : l ≠ [] := fun e => by rw [e] at hl; simp at hl
    obtain ⟨m, c, rfl⟩ : ∃ m c, l = m ++ [c] := ⟨l.dropLast, l.getLast hne, (List.dropLast_concat_getLast hne).symm⟩
    have hml : m.length = k + 1 := by simpa using hl
    have hm0 : m ≠ [] := fun e => by rw [e] at hml; simp at hml
    have hmh : m.head? ≠ some 48 := by
      rw [List.head?_append] at hh
      cases hx : m.head? with
      | none => rw [List.head?_eq_none_iff] at hx; exact absurd hx hm0
      | some x => rw [hx] at hh; simpa using hh
    have ih := dval_ge k m hml (fun d h => hd d (by simp [h])) hmh
    rw [dval_snoc, Nat.pow_succ]
    omega

/-- what Get tells, without the bound on how many digits there are -/
theorem getV_alt (l : List UInt8) : getV l = if (run l).length = 0 ∨ most < dval (run l) ∨ (1 < (run l).length ∧ l.head? = some 48) then none else some (dval (run l), (run l).length) := by
  unfold getV
  by_cases h1 : (run l).length = 0
  · rw [if_pos (.inl h1), if_pos (.inl h1)]
  by_cases h2 : most < dval (run l)
  · rw [if_pos (.inr (.inr (.inr h2))), if_pos (.inr (.inl h2))]
  by_cases h3 : 1 < (run l).length ∧ l.head? = some 48
  · rw [if_pos (.inr (.inr (.inl h3))), if_pos (.inr (.inr h3))]
  have h4 : ¬ 10 < (run l).length := by
    intro h
    have hh : (run l).head? ≠ some 48 := by
      intro he
      rw [run_take, List.head?_take] at he
      split at he
      · cases he
      · exact h3 ⟨by omega, he⟩
    have := dval_ge ((run l).length - 1) (run l) (by omega) (run_dg l) hh
    have h5 : 10 ^ 10 ≤ 10 ^ ((run l).length - 1) := Nat.pow_le_pow_right (by omega) (by omega)
    unfold most at h2
    omega
  rw [if_neg (fun h => h.elim h1 fun h => h.elim h4 fun h => h.elim h3 h2), if_neg (fun h => h.elim h1 fun h => h.elim h2 h3)]

theorem rget_out (s : ByteArray) (a : Int) (w : World) (h : a < 0 ∨ (s.size : Int) < a) :
    Calls Tryd.prog 13 #[.string s, .int .i64 a] w fun e w' => e = .returned (three (getR s.data.toList a)) ∧ w = w' := by
  have hr : getR s.data.toList a = (0, a, 3) := by rw [getR, if_pos (by simpa using h)]
  rw [hr]
  clear hr
  rcases h with h | h
  · go_enter Tryd.func13, Tryd.ntmps13
    go_wp2
    go_loop [7, 8] (fun n b => n = .int .i64 0 ∧ b = .int .i64 a) (fun _ _ => 0)
    case atStart => exact ⟨rfl, rfl⟩
    case round =>
      obtain ⟨rfl, rfl⟩ := hrel
      go_wp2
      go_ret3
      exact ⟨rfl, rfl⟩
  · have h0 : 0 ≤ a := by omega
    have h1 : decide (a < (s.size : Int)) = false := decide_eq_false (by omega)
    go_enter Tryd.func13, Tryd.ntmps13
    go_wp2
    go_loop [7, 8] (fun n b => n = .int .i64 0 ∧ b = .int .i64 a) (fun _ _ => 0)
    case atStart => exact ⟨rfl, rfl⟩
    case round =>
      obtain ⟨rfl, rfl⟩ := hrel
      go_wp2
      go_ret3
      exact ⟨rfl, rfl⟩

/-- what the reference tells behind the loop -/
theorem rget_tell (s : ByteArray) (a b : Nat) (hab : a ≤ b) (hb : b ≤ s.size) (hd : Digs s a b) (hno : ∀ h : b < s.size, isDg s[b] = false) (c : Int) (hc : ∀ h : a < s.size, (s[a].toNat : Int) = c) :
    getR s.data.toList (a : Int) = if a = b ∨ 2147483647 < cap (dval (seg s a b)) ∨ (c = 48 ∧ a + 1 < b) then (0, (a : Int), 3) else (((cap (dval (seg s a b)) : Nat) : Int), (b : Int), 0) := by
  rw [getR, if_neg (by simp; omega), Int.toNat_natCast, getV_alt, run_seg s a b hab hb hd hno]
  have hl : (seg s a b).length = b - a := by unfold seg; rw [List.length_take, List.length_drop]; simp; omega
  have hh : a < b → ((s.data.toList.drop a).head? = some 48 ↔ c = 48) := by
    intro h
    rw [List.head?_drop, List.getElem?_eq_getElem (by simp; omega)]
    have h1 := hc (by omega)
    have h2 : s.data.toList[a]'(by simp; omega) = s[a] := rfl
    rw [h2, Option.some.injEq, ← UInt8.toNat_inj]
    show s[a].toNat = 48 ↔ c = 48
    omega
  have hcap : 2147483647 < cap (dval (seg s a b)) ↔ most < dval (seg s a b) := by unfold cap most; omega
  rw [hl]
  by_cases h1 : a = b
  · rw [if_pos (.inl (by omega)), if_pos (.inl h1)]
  by_cases h2 : most < dval (seg s a b)
  · rw [if_pos (.inr (.inl h2)), if_pos (.inr (.inl (hcap.2 h2)))]
  by_cases h3 : c = 48 ∧ a + 1 < b
  · rw [if_pos (.inr (.inr ⟨by omega, (hh (by omega)).2 h3.1⟩)), if_pos (.inr (.inr h3))]
  · rw [if_neg, if_neg]
    · have : cap (dval (seg s a b)) = dval (seg s a b) := by unfold cap; unfold most at h2; omega
      rw [this]
      simp only [Prod.mk.injEq, and_true, true_and]
      omega
    · exact fun h => h.elim h1 fun h => h.elim (fun h => h2 (hcap.1 h)) h3
    · exact fun h => h.elim (by omega) fun h => h.elim h2 fun h => h3 ⟨(hh (by omega)).1 h.2, by omega⟩

set_option maxRecDepth 100000 in
set_option maxHeartbeats 1000000 in
theorem rget_in (s : ByteArray) (a : Nat) (w : World) (hs : s.size ≤ 100) (h : a ≤ s.size) :
    Calls Tryd.prog 13 #[.string s, .int .i64 (a : Int)] w fun e w' => e = .returned (three (getR s.data.toList (a : Int))) ∧ w = w' := by
  go_enter Tryd.func13, Tryd.ntmps13
  go_wp2
  go_loop [7, 8] (fun n b => ∃ (k m : Nat), a ≤ k ∧ k ≤ s.size ∧ b = .int .i64 (k : Int) ∧ n = .int .i64 (m : Int) ∧ Hid (m = cap (dval (seg s a k))) ∧ m ≤ 2147483648 ∧ Hid (Digs s a k)) (fun _ b => s.size - (intOf b).toNat)
  case atStart =>
    refine ⟨a, 0, Nat.le_refl _, h, rfl, rfl, Lib.hid ?_, by omega, Lib.hid fun j _ h1 h2 => absurd h1 (by omega)⟩
    unfold seg
    rw [Nat.sub_self, List.take_zero]
    rfl
  case round =>
    obtain ⟨k, m, hak, hk, rfl, rfl, hm, hmb, hd⟩ := hrel
    -- what is told where the loop ends
    have hfin : (∀ hk : k < s.size, isDg s[k] = false) → ∃ c : Int, (a = k ∨ (a < k ∧ ∀ wx : World, (Instr.index 9 (.string s) (.int .i64 (a : Int))).run Tryd.prog wx = .ok (.int .u8 c) wx)) ∧
        getR s.data.toList (a : Int) = if a = k ∨ 2147483647 < m ∨ (c = 48 ∧ a + 1 < k) then (0, (a : Int), 3) else (((m : Nat) : Int), (k : Int), 0) := by
      intro hno
      by_cases hak' : a = k
      · obtain ⟨c, hc⟩ : ∃ c : Int, ∀ h : a < s.size, (s[a].toNat : Int) = c := by
          by_cases h : a < s.size
          · exact ⟨(s[a].toNat : Int), fun _ => rfl⟩
          · exact ⟨0, fun h' => absurd h' h⟩
        exact ⟨c, .inl hak', by rw [rget_tell s a k hak hk hd.out hno c hc, hm.out]⟩
      · obtain ⟨c, hc, _, _, hix⟩ := ix_int s (a : Int) (by omega) (by omega)
        exact ⟨c, .inr ⟨by omega, hix⟩, by rw [rget_tell s a k hak hk hd.out hno c (fun _ => hc), hm.out]⟩
    have HF := Lib.hid hfin
    clear hfin
    by_cases hlt : k < s.size
    · obtain ⟨c, hc, hc0, hc1, hix⟩ := ix_int s (k : Int) (by omega) (by omega)
      have hlt' : (k : Int) < (s.size : Int) := by omega
      by_cases hdg : 48 ≤ c ∧ c ≤ 57
      · have hst : ((cap (dval (seg s a (k + 1))) : Nat) : Int) = min (10 * (m : Int) + (c - 48)) 2147483648 := by
          rw [seg_succ s a k hak hlt, cap_step (seg s a k) s[k] (c - 48) (by rw [← hc]; rfl) (by simp only [isDg, decide_eq_true_eq]; simp only [Int.toNat_natCast] at hc; omega), hm.out]
        have hdn : Digs s a (k + 1) := by
          intro j hj h1 h2
          by_cases hjk : j < k
          · exact hd.out j hj h1 hjk
          · have : j = k := by omega
            subst this
            simp only [isDg, decide_eq_true_eq]; simp only [Int.toNat_natCast] at hc; omega
        have HST := Lib.hid hst
        have HDN := Lib.hid hdn
        clear hst hdn hc hm hd HF
        go_wp2_with fail
        refine (rdigit_yes c _ hdg.1 hdg.2).mono ?_
        rintro e w' ⟨rfl, rfl⟩
        go_wp2
        refine ⟨⟨k + 1, cap (dval (seg s a (k + 1))), by omega, by omega, by go_num, by rw [HST.out], Lib.hid rfl, by unfold cap; omega, HDN⟩, ?_⟩
        simp [intOf]; omega
      · have hno : ∀ hk : k < s.size, isDg s[k] = false := fun hk => by
          simp only [isDg, decide_eq_false_iff_not]; simp only [Int.toNat_natCast] at hc; omega
        obtain ⟨c', hcc, hr⟩ := HF.out hno
        have HR := Lib.hid hr
        clear hr hno hc HF hm hd
        rcases hcc with hake | ⟨hak', hix0⟩
        · subst hake
          go_wp2_with fail
          refine (rdigit_no c _ (by omega)).mono ?_
          rintro e w' ⟨rfl, rfl⟩
          go_wp2
          go_ret3
          rw [HR.out, if_pos (.inl (by first | rfl | trivial))]
          exact ⟨rfl, by first | rfl | trivial⟩
        · have hkane : ((k : Int) == (a : Int)) = false := by rw [beq_eq_false_iff_ne]; omega
          have hkane' : ¬ a = k := by omega
          by_cases h2 : 2147483647 < m
          · have h2' : (2147483647 : Int) < (m : Int) := by omega
            go_wp2_with fail
            refine (rdigit_no c _ (by omega)).mono ?_
            rintro e w' ⟨rfl, rfl⟩
            go_wp2
            go_ret3
            rw [HR.out, if_pos (.inr (.inl h2))]
            exact ⟨rfl, by first | rfl | trivial⟩
          · have h2' : (m : Int) ≤ 2147483647 := by omega
            by_cases h3 : c' = 48
            · subst h3
              by_cases h4 : a + 1 < k
              · have h4' : (a : Int) + 1 < (k : Int) := by omega
                go_wp2_with fail
                refine (rdigit_no c _ (by omega)).mono ?_
                rintro e w' ⟨rfl, rfl⟩
                go_wp2
                go_ret3
                rw [HR.out, if_pos (.inr (.inr ⟨by first | rfl | trivial, h4⟩))]
                exact ⟨rfl, by first | rfl | trivial⟩
              · have h4' : (k : Int) ≤ (a : Int) + 1 := by omega
                go_wp2_with fail
                refine (rdigit_no c _ (by omega)).mono ?_
                rintro e w' ⟨rfl, rfl⟩
                go_wp2
                go_ret3
                rw [HR.out, if_neg (fun h => h.elim hkane' fun h => h.elim h2 fun h => h4 h.2)]
                exact ⟨rfl, by first | rfl | trivial⟩
            · have h3' : (c' == 48) = false := by rw [beq_eq_false_iff_ne]; exact h3
              go_wp2_with fail
              refine (rdigit_no c _ (by omega)).mono ?_
              rintro e w' ⟨rfl, rfl⟩
              go_wp2
              go_ret3
              rw [HR.out, if_neg (fun h => h.elim hkane' fun h => h.elim h2 fun h => h3 h.1)]
              exact ⟨rfl, by first | rfl | trivial⟩
    · obtain ⟨c', hcc, hr⟩ := HF.out (fun hk => absurd hk hlt)
      have HR := Lib.hid hr
      have hlt' : (s.size : Int) ≤ (k : Int) := by omega
      clear hr HF hm hd
      rcases hcc with hake | ⟨hak', hix0⟩
      · subst hake
        go_wp2
        go_ret3
        rw [HR.out, if_pos (.inl (by first | rfl | trivial))]
        exact ⟨rfl, by first | rfl | trivial⟩
      · have hkane : ((k : Int) == (a : Int)) = false := by rw [beq_eq_false_iff_ne]; omega
        have hkane' : ¬ a = k := by omega
        by_cases h2 : 2147483647 < m
        · have h2' : (2147483647 : Int) < (m : Int) := by omega
          go_wp2
          go_ret3
          rw [HR.out, if_pos (.inr (.inl h2))]
          exact ⟨rfl, by first | rfl | trivial⟩
        · have h2' : (m : Int) ≤ 2147483647 := by omega
          by_cases h3 : c' = 48
          · subst h3
            by_cases h4 : a + 1 < k
            · have h4' : (a : Int) + 1 < (k : Int) := by omega
              go_wp2
              go_ret3
              rw [HR.out, if_pos (.inr (.inr ⟨by first | rfl | trivial, h4⟩))]
              exact ⟨rfl, by first | rfl | trivial⟩
            · have h4' : (k : Int) ≤ (a : Int) + 1 := by omega
              go_wp2
              go_ret3
              rw [HR.out, if_neg (fun h => h.elim hkane' fun h => h.elim h2 fun h => h4 h.2)]
              exact ⟨rfl, by first | rfl | trivial⟩
          · have h3' : (c' == 48) = false := by rw [beq_eq_false_iff_ne]; exact h3
            go_wp2
            go_ret3
            rw [HR.out, if_neg (fun h => h.elim hkane' fun h => h.elim h2 fun h => h3 h.1)]
            exact ⟨rfl, by first | rfl | trivial⟩
end Go.Proofs.YtkemaaohmfdhbaaDoor
