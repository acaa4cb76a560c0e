/- Rows of signs; may a gate be, as the document has it. -/
import Derived.Test.YtfkmolbcgnkfdaaDoorLimit
namespace Go.Proofs.YtfkmolbcgnkfdaaDoor
open Go.RowKit
attribute [local go_sem] Oper.semAt_some
set_option maxRecDepth 100000
set_option maxHeartbeats 1000000

theorem sign_iff (c : UInt8) : signB c = true ↔ (c.toNat : Int) = 48 ∨ (c.toNat : Int) = 49 ∨ (c.toNat : Int) = 45 := by
  unfold signB
  simp only [Bool.or_eq_true, beq_iff_eq]
  constructor
  · rintro (h | h | h) <;> subst h
    · exact .inl rfl
    · exact .inr (.inl rfl)
    · exact .inr (.inr rfl)
  · rintro (h | h | h)
    · exact .inl (UInt8.toNat_inj.1 (by have : (48 : UInt8).toNat = 48 := rfl; omega))
    · exact .inr (.inl (UInt8.toNat_inj.1 (by have : (49 : UInt8).toNat = 49 := rfl; omega)))
    · exact .inr (.inr (UInt8.toNat_inj.1 (by have : (45 : UInt8).toNat = 45 := rfl; omega)))
theorem rowB_no {n : Nat} {s : ByteArray} {k : Nat} (h : k < s.size) (hp : signB s[k] = false) : rowB n s = false := by
  unfold rowB
  rw [all_no signB s k h hp, Bool.and_false]
theorem rowB_all {n : Nat} {s : ByteArray} (h : ∀ j, (hj : j < s.size) → signB s[j] = true) : rowB n s = decide (s.size = n) := by
  unfold rowB
  rw [all_yes signB s h, Bool.and_true]
theorem row_any (s : ByteArray) (n : Nat) (w : World) (hss : s.size ≤ 100000) : Calls Tryd.prog 78 #[.string s, .int .i64 (n : Int)] w fun e w' => e = .returned (.bool (rowB n s)) ∧ w = w' := by
  obtain ⟨q, hq⟩ : ∃ q, rowB n s = q := ⟨_, rfl⟩
  rw [hq]
  have HQ := Lib.hid hq
  clear hq
  go_enter Tryd.func78, Tryd.ntmps78
  go_wp2
  go_loop [5] (fun i => ∃ k : Nat, k ≤ s.size ∧ i = .int .i64 (k : Int) ∧ Hid (∀ j, (hj : j < s.size) → j < k → signB s[j] = true)) (fun i => s.size - (intOf i).toNat)
  case atStart => exact ⟨0, Nat.zero_le _, rfl, Lib.hid fun j _ h => absurd h (by omega)⟩
  case round =>
    obtain ⟨k, hk, rfl, hall⟩ := hrel
    by_cases hlt : k < s.size
    · have hlt' : (k : Int) < (s.size : Int) := by omega
      have hix := get_run s k hlt
      by_cases a48 : (s[k].toNat : Int) = 48
      · have b48 : ((s[k].toNat : Int) != 48) = false := by rw [a48]; rfl
        have HN := Lib.hid (show ∀ j, (hj : j < s.size) → j < k + 1 → signB s[j] = true from by
          intro j hj h
          by_cases hjk : j < k
          · exact hall.out j hj hjk
          · have : j = k := by omega
            subst this
            exact (sign_iff _).2 (by omega))
        clear hall
        clear a48
        generalize (s[k].toNat : Int) = z at *
        go_wp2
        refine ⟨⟨k + 1, by omega, by go_num, HN⟩, ?_⟩
        simp [intOf]; omega
      · have b48 : ((s[k].toNat : Int) != 48) = true := by rw [bne_iff_ne]; exact a48
        by_cases a49 : (s[k].toNat : Int) = 49
        · have b49 : ((s[k].toNat : Int) != 49) = false := by rw [a49]; rfl
          have HN := Lib.hid (show ∀ j, (hj : j < s.size) → j < k + 1 → signB s[j] = true from by
            intro j hj h
            by_cases hjk : j < k
            · exact hall.out j hj hjk
            · have : j = k := by omega
              subst this
              exact (sign_iff _).2 (by omega))
          clear hall
          clear a49 a48
          generalize (s[k].toNat : Int) = z at *
          go_wp2
          refine ⟨⟨k + 1, by omega, by go_num, HN⟩, ?_⟩
          simp [intOf]; omega
        · have b49 : ((s[k].toNat : Int) != 49) = true := by rw [bne_iff_ne]; exact a49
          by_cases a45 : (s[k].toNat : Int) = 45
          · have b45 : ((s[k].toNat : Int) != 45) = false := by rw [a45]; rfl
            have HN := Lib.hid (show ∀ j, (hj : j < s.size) → j < k + 1 → signB s[j] = true from by
              intro j hj h
              by_cases hjk : j < k
              · exact hall.out j hj hjk
              · have : j = k := by omega
                subst this
                exact (sign_iff _).2 (by omega))
            clear hall
            clear a45 a48 a49
            generalize (s[k].toNat : Int) = z at *
            go_wp2
            refine ⟨⟨k + 1, by omega, by go_num, HN⟩, ?_⟩
            simp [intOf]; omega
          · have b45 : ((s[k].toNat : Int) != 45) = true := by rw [bne_iff_ne]; exact a45
            obtain rfl : q = false := by
              rw [← HQ.out]
              refine rowB_no hlt ?_
              rw [Bool.eq_false_iff]
              intro h
              have := (sign_iff _).1 h
              omega
            clear hall HQ a48 a49 a45
            generalize (s[k].toNat : Int) = z at *
            go_wp2
            go_ret
            exact ⟨rfl, by first | rfl | trivial⟩
    · have hge : (s.size : Int) ≤ (k : Int) := by omega
      have hr := rowB_all (n := n) (fun j hj => hall.out j hj (by omega))
      rw [HQ.out] at hr
      clear hall HQ
      by_cases hn : s.size = n
      · obtain rfl : q = true := by rw [hr, decide_eq_true hn]
        have hn' : ((s.size : Int) == (n : Int)) = true := by rw [hn]; simp
        clear hr hn
        go_wp2
        go_ret
        exact ⟨rfl, by first | rfl | trivial⟩
      · obtain rfl : q = false := by rw [hr, decide_eq_false hn]
        have hn' : ((s.size : Int) == (n : Int)) = false := by rw [beq_eq_false_iff_ne]; omega
        clear hr hn
        go_wp2
        go_ret
        exact ⟨rfl, by first | rfl | trivial⟩
end Go.Proofs.YtfkmolbcgnkfdaaDoor
