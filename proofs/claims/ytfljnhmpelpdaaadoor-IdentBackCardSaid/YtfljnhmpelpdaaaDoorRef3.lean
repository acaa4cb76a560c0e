/- The document's own digits two by two. -/
import Derived.Test.YtfljnhmpelpdaaaDoorRef2
import Derived.Deep.RegionWith
import Derived.StillTailTactics
namespace Go.Proofs.YtfljnhmpelpdaaaDoor
open Go.RowKit

theorem hexD_slice (n : Nat) (h : n < 16) (w : World) : (Instr.slice 9 (.string ⟨#[48, 49, 50, 51, 52, 53, 54, 55, 56, 57, 97, 98, 99, 100, 101, 102]⟩) (some (.int .u8 (n : Int))) (some (.int .u8 ((n : Int) + 1))) none).run Tryd.prog w = .ok (.string ⟨#[hd n]⟩) w := by
  have hr := run_slice_string (P := Tryd.prog) w 9 ⟨#[48, 49, 50, 51, 52, 53, 54, 55, 56, 57, 97, 98, 99, 100, 101, 102]⟩ .u8 .u8 (n : Int) ((n : Int) + 1) Tryd.underlying9 (by omega) (by omega) (by show (n : Int) + 1 ≤ 16; omega)
  rw [hr]
  have hn : n = 0 ∨ n = 1 ∨ n = 2 ∨ n = 3 ∨ n = 4 ∨ n = 5 ∨ n = 6 ∨ n = 7 ∨ n = 8 ∨ n = 9 ∨ n = 10 ∨ n = 11 ∨ n = 12 ∨ n = 13 ∨ n = 14 ∨ n = 15 := by omega
  rcases hn with h | h | h | h | h | h | h | h | h | h | h | h | h | h | h | h <;> subst h <;> rfl
/-- a digit as a text -/
theorem hexD_text (n : Nat) (h : n < 16) : ∃ t : ByteArray, t.data.toList = [hd n] ∧ (t.size : Int) = 1 ∧ ∀ w : World, (Instr.slice 9 (.string ⟨#[48, 49, 50, 51, 52, 53, 54, 55, 56, 57, 97, 98, 99, 100, 101, 102]⟩) (some (.int .u8 (n : Int))) (some (.int .u8 ((n : Int) + 1))) none).run Tryd.prog w = .ok (.string t) w :=
  ⟨⟨#[hd n]⟩, rfl, rfl, hexD_slice n h⟩

set_option maxRecDepth 100000 in
set_option maxHeartbeats 1000000 in
theorem rhex_any (s : ByteArray) (w : World) (hs : s.size ≤ 40) :
    Calls Tryd.prog 66 #[.string s] w fun e w' => e = .returned (.string ⟨(hexL s.data.toList).toArray⟩) ∧ Below w.heap.size w w' := by
  go_enter Tryd.func66, Tryd.ntmps66
  go_wp2
  go_loopw [4, 5] (fun v i wr => ∃ (k : Nat) (T : ByteArray), k ≤ s.size ∧ v = .string T ∧ i = .int .i64 (k : Int) ∧ T.size = 2 * k ∧ Below w.heap.size w wr ∧ Hid (T.data.toList = hexL (s.data.toList.take k))) (fun _ i _ => s.size - (intOf i).toNat)
  case atStart => exact ⟨0, _, Nat.zero_le _, rfl, rfl, rfl, Below.refl _ _, Lib.hid rfl⟩
  case round =>
    obtain ⟨k, T, hk, rfl, rfl, hT, hB, hH⟩ := hrel
    have HB := Lib.hid hB
    clear hB
    by_cases hlt : k < s.size
    · have hlt' : (k : Int) < (s.size : Int) := by omega
      have hix := get_run s k hlt
      have HTK := Lib.hid (hex_take s k hlt)
      have hTs : (T.size : Int) ≤ 100 := by omega
      generalize s[k] = c at hix HTK
      have hcl := c.toNat_lt
      obtain ⟨t1, e1, z1, hn1⟩ := hexD_text (c.toNat / 16) (by omega)
      obtain ⟨t2, e2, z2, hn2⟩ := hexD_text (c.toNat % 16) (by omega)
      rw [show ((c.toNat / 16 : Nat) : Int) = (c.toNat : Int) / 16 from by omega] at hn1
      rw [show ((c.toNat % 16 : Nat) : Int) = (c.toNat : Int) % 16 from by omega] at hn2
      have hw1 : IntKind.u8.wrap ((c.toNat : Int) / 16 + 1) = (c.toNat : Int) / 16 + 1 := IntWalk.u8_in _ (by omega)
      have hw2 : IntKind.u8.wrap ((c.toNat : Int) % 16 + 1) = (c.toNat : Int) % 16 + 1 := IntWalk.u8_in _ (by omega)
      have ht1 : Int.tdiv (c.toNat : Int) 16 = (c.toNat : Int) / 16 := Int.tdiv_eq_ediv_of_nonneg (by omega)
      have ht2 : Int.tmod (c.toNat : Int) 16 = (c.toNat : Int) % 16 := Int.tmod_eq_emod_of_nonneg (by omega)
      have hz0 : (0 : Int) ≤ (c.toNat : Int) := by omega
      have hz1 : (c.toNat : Int) ≤ 255 := by omega
      have HC := Lib.hid (show hexC c = [hd (c.toNat / 16), hd (c.toNat % 16)] from rfl)
      generalize hd (c.toNat / 16) = d1 at e1 HC
      generalize hd (c.toNat % 16) = d2 at e2 HC
      generalize (c.toNat : Int) = z at hix hn1 hn2 hw1 hw2 ht1 ht2 hz0 hz1
      have HE := Lib.hid (And.intro e1 e2)
      have HZ : t1.size = 1 ∧ t2.size = 1 := by omega
      have HZ' := Lib.hid HZ
      have HTN := Lib.hid hT
      clear hcl e1 e2 HZ hT
      have hTT := Lib.hid hTs
      go_wp2_with fail
      go_quiet (fail)
      clear hw1 hw2
      go_wp2
      refine ⟨⟨k + 1, _, by omega, rfl, by go_num, ?_, below_drewN HB.out _, Lib.hid ?_⟩, ?_⟩
      · rw [ByteArray.size_append, ByteArray.size_append, HZ'.out.1, HZ'.out.2, HTN.out]; omega
      · rw [ByteArray.data_append, ByteArray.data_append, Array.toList_append, Array.toList_append, HE.out.1, HE.out.2, hH.out, HTK.out, HC.out, List.append_assoc]; rfl
      · simp [intOf]; omega
    · have hge : (s.size : Int) ≤ (k : Int) := by omega
      have hTs : (T.size : Int) ≤ 100 := by omega
      have hr : (⟨(hexL s.data.toList).toArray⟩ : ByteArray) = T := bytes_inj _ _ (by rw [hH.out, List.take_of_length_le (by simp; omega)])
      have HR := Lib.hid hr
      clear hr
      go_wp2
      go_ret
      exact ⟨by rw [HR.out]; rfl, HB.out⟩

/-- what is read of digits: the bytes, or that they are none -/
def Unh (w : World) (r : Option (List UInt8)) (n : Nat) (e : Ending) (w' : World) : Prop :=
  (∃ (T : ByteArray) (b : Bool), e = .returned (.tuple #[.string T, .bool b]) ∧ T.size ≤ n ∧ ((b = true ∧ r = some T.data.toList) ∨ (b = false ∧ r = none))) ∧ Below w.heap.size w w'
theorem oneT_runN (W : World) (c : Int) (h0 : 0 ≤ c) (h1 : c ≤ 255) (n : Nat) :
    (convert 77 9 (.slice (some ⟨W.heap.size, 0, none⟩) 1 1)).run Tryd.prog ((W.alloc (.cells #[.int .u8 c] 5)).drewN n) = .ok (.string (oneT c)) ((W.alloc (.cells #[.int .u8 c] 5)).drewN n) :=
  run_convert_bytes_back (P := Tryd.prog) ((W.alloc (.cells #[.int .u8 c] 5)).drewN n) 77 9 5 ⟨W.heap.size, 0, none⟩ 1 [UInt8.ofNat c.toNat] Tryd.underlying77 Tryd.underlying5 Tryd.underlying9 (fun j hj => by
    obtain rfl : j = 0 := by simp at hj; omega
    have h : ((UInt8.ofNat c.toNat).toNat : Int) = c := by rw [UInt8.toNat_ofNat']; omega
    have := (Blk.new W #[.int .u8 c] 5).cell 0
    simp only [List.getElem_cons_zero, h]
    exact this)

theorem oneT_runD (W : World) (c : Int) (h0 : 0 ≤ c) (h1 : c ≤ 255) :
    (convert 77 9 (.slice (some ⟨W.heap.size, 0, none⟩) 1 1)).run Tryd.prog ((W.alloc (.cells #[.int .u8 c] 5)).drew) = .ok (.string (oneT c)) ((W.alloc (.cells #[.int .u8 c] 5)).drew) :=
  run_convert_bytes_back (P := Tryd.prog) ((W.alloc (.cells #[.int .u8 c] 5)).drew) 77 9 5 ⟨W.heap.size, 0, none⟩ 1 [UInt8.ofNat c.toNat] Tryd.underlying77 Tryd.underlying5 Tryd.underlying9 (fun j hj => by
    obtain rfl : j = 0 := by simp at hj; omega
    have h : ((UInt8.ofNat c.toNat).toNat : Int) = c := by rw [UInt8.toNat_ofNat']; omega
    have := (Blk.new W #[.int .u8 c] 5).cell 0
    simp only [List.getElem_cons_zero, h]
    exact this)

end Go.Proofs.YtfljnhmpelpdaaaDoor
