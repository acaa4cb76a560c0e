/- The document's Lines and Texts. -/
import Derived.Test.YtkemaaohmfdhbaaWorks
import Derived.Deep.QuietTactic
import Derived.BigQuiet
namespace Go.Proofs.Ytkemaaohmfdhbaa
open Go.RowKit

theorem lns_snoc : ∀ (l : List UInt8) (b : UInt8) (ys : List (List UInt8)) (x : List UInt8), lns l = ys ++ [x] → lns (l ++ [b]) = if b = 10 then ys ++ [x] ++ [[]] else ys ++ [x ++ [b]]
  | [], b, ys, x, h => by
    have : ys = [] ∧ x = [] := by
      cases ys with
      | nil => simpa [lns] using h.symm
      | cons y ys => simp [lns] at h
    obtain ⟨rfl, rfl⟩ := this
    by_cases hb : b = 10 <;> simp [lns, hb]
  | a :: l, b, ys, x, h => by
    simp only [List.cons_append, lns] at h ⊢
    by_cases ha : a = 10
    · rw [if_pos ha] at h ⊢
      cases ys with
      | nil => simp at h; exact absurd h.2 (lns_ne l)
      | cons y ys =>
        simp at h
        rw [lns_snoc l b ys x h.2, h.1]
        split <;> simp
    · rw [if_neg ha] at h ⊢
      obtain ⟨z, zs, hz⟩ : ∃ z zs, lns l = z :: zs := by
        cases h : lns l with
        | nil => exact absurd h (lns_ne _)
        | cons x xs => exact ⟨x, xs, rfl⟩
      rw [hz] at h
      simp only at h
      cases ys with
      | nil =>
        simp at h
        have := lns_snoc l b [] z (by rw [hz, h.2]; rfl)
        rw [this]
        by_cases hb : b = 10 <;> simp [hb, ← h.1]
      | cons y ys =>
        simp at h
        have := lns_snoc l b (z :: ys) x (by rw [hz, h.2]; rfl)
        rw [this]
        by_cases hb : b = 10 <;> simp [hb, ← h.1]

theorem ext_one (t : ByteArray) (e : Nat) (h : e < t.size) : (t.extract e (e + 1)).data.toList = [t[e]] := by
  rw [ByteArray.data_extract, Array.toList_extract, List.extract_eq_take_drop]
  rw [show e + 1 - e = 1 from by omega, List.drop_eq_getElem_cons (by simpa using h)]
  rfl

set_option maxRecDepth 100000 in
set_option maxHeartbeats 2000000 in
theorem refLines_any (s : ByteArray) (w : World) (hs : s.size ≤ 4294967296) :
    Calls Try.prog 18 #[.string s] w fun e w' => ∃ v xs, e = .returned v ∧ tx xs = lns s.data.toList ∧ w'.ownsRow w.heap.size 9 1 v xs.length (xs.map Value.string) ∧ Below w.heap.size w w' := by
  obtain ⟨i0, hi, hz0, hz1, hz2⟩ := info_parts info9
  go_enter Try.func18, Try.ntmps18
  go_wp2
  go_loopw [3, 4, 5] (fun v t i wr => ∃ (k : Nat) (xs : List ByteArray) (x : ByteArray), k ≤ s.size ∧ i = .int .i64 k ∧ t = .string x ∧ lns (s.data.toList.take k) = tx xs ++ [x.data.toList] ∧ xs.length ≤ k ∧ x.size ≤ k ∧ wr.ownsRow w.heap.size 9 1 v xs.length (xs.map Value.string) ∧ Below w.heap.size w wr) (fun _ _ i _ => s.size - (intOf i).toNat)
  case atStart => exact ⟨0, [], ⟨#[]⟩, Nat.zero_le _, rfl, rfl, by simp [lns, tx], by simp, Nat.le_refl _, World.ownsRow_nil _ _ _ _, Below.refl _ _⟩
  case round =>
    obtain ⟨k, xs, x, hk, rfl, rfl, hl, hlen, hx, hrow, hB⟩ := hrel
    have HL := Lib.hid hl
    clear hl
    by_cases hlt : k < s.size
    · have hts := Lib.hid (take_snoc s k hlt)
      have hu := Lib.hid (u8_eq' (s[k]))
      by_cases hc : s[k] = 10
      · have ht : ((s[k].toNat : Int) == (10 : Int)) = true := by rw [hu.out]; simpa using hc
        have HC := Lib.hid hc
        clear hc
        go_wp2_with (at_builtin; refine wpList_append_own _ rfl _ _ 36 rfl w.heap.size 9 i0 (.string ⟨#[]⟩) 1 16 Try.underlying36 hi hz0 hz1 hz2 rfl (by decide) _ _ _ rfl (hrow.alloc _) ⟨wr.heap.size, 0, none⟩ 1 1 [.string x] rfl rfl (cell_one_new _ _ _) (by simp [Value.oneCell']) (by unfold maxLen; omega) (by omega) (by have := hB.size; simp; omega) ?_; intro v' w1 hown' hgrow _)
        go_roundw
        case rel =>
          refine ⟨k + 1, xs ++ [x], ⟨#[]⟩, by omega, by go_num, rfl, ?_, by simp; omega, Nat.zero_le _, by simpa using hown', ((hB.alloc hB.size _).grown hgrow (by have := hB.size; simp; omega) fun j ej => ?_)⟩
          · rw [hts.out, lns_snoc _ _ _ _ HL.out, if_pos HC.out]; simp [tx]
          · exact (hrow.lt j ej).1
        case measure => simp [intOf]; omega
      · have ht : ((s[k].toNat : Int) == (10 : Int)) = false := by rw [hu.out]; simpa using hc
        have HC := Lib.hid hc
        clear hc
        have hsl : ∀ wx : World, (Instr.slice 9 (.string s) (some (.int .i64 (k : Int))) (some (.int .i64 ((k : Int) + 1))) none).run Try.prog wx = .ok (.string (s.extract k (k + 1))) wx := fun wx =>
          run_slice_string wx 9 s .i64 .i64 (k : Int) ((k : Int) + 1) Try.underlying9 (by omega) (by omega) (by omega)
        go_wp2
        go_roundw
        case rel =>
          refine ⟨k + 1, xs, x ++ s.extract k (k + 1), by omega, by go_num, rfl, ?_, by omega, ?_, hrow, hB⟩
          · rw [hts.out, lns_snoc _ _ _ _ HL.out, if_neg HC.out, ByteArray.data_append, Array.toList_append, ext_one s k hlt]
          · rw [ByteArray.size_append, ByteArray.size_extract]; omega
        case measure => simp [intOf]; omega
    · have hk' : k = s.size := by omega
      have HH := Lib.hid hk'
      clear hk'
      go_wp2_with (at_builtin; refine wpList_append_own _ rfl _ _ 36 rfl w.heap.size 9 i0 (.string ⟨#[]⟩) 1 16 Try.underlying36 hi hz0 hz1 hz2 rfl (by decide) _ _ _ rfl (hrow.alloc _) ⟨wr.heap.size, 0, none⟩ 1 1 [.string x] rfl rfl (cell_one_new _ _ _) (by simp [Value.oneCell']) (by unfold maxLen; omega) (by omega) (by have := hB.size; simp; omega) ?_; intro v' w1 hown' hgrow _)
      go_ret
      refine ⟨v', xs ++ [x], rfl, ?_, by simpa using hown', ((hB.alloc hB.size _).grown hgrow (by have := hB.size; simp; omega) fun j ej => (hrow.lt j ej).1)⟩
      have := HL.out
      rw [List.take_of_length_le (by have := HH.out; simp; omega)] at this
      rw [this]; simp [tx]
end Go.Proofs.Ytkemaaohmfdhbaa
