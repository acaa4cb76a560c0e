/- The document's answers, by definition: Digit, Put, Delta. -/
import Derived.Test.YtkemaaohmfdhbaaDoorBack
namespace Go.Proofs.YtkemaaohmfdhbaaDoor
open Go.RowKit

theorem rdigit_yes (c : Int) (w : World) (h0 : 48 ≤ c) (h1 : c ≤ 57) : Calls Tryd.prog 14 #[.int .u8 c] w fun e w' => e = .returned (.bool true) ∧ w = w' := by
  go_enter Tryd.func14, Tryd.ntmps14
  go_wp2
  go_ret
  exact ⟨rfl, rfl⟩
theorem rdigit_no (c : Int) (w : World) (h : c < 48 ∨ 57 < c) : Calls Tryd.prog 14 #[.int .u8 c] w fun e w' => e = .returned (.bool false) ∧ w = w' := by
  rcases h with h | h
  · go_enter Tryd.func14, Tryd.ntmps14
    go_wp2
    go_ret
    exact ⟨rfl, rfl⟩
  · have h0 : 48 ≤ c := by omega
    have hx : ¬ c ≤ 57 := by omega
    go_enter Tryd.func14, Tryd.ntmps14
    go_wp2
    go_ret
    exact ⟨rfl, rfl⟩

/-- one byte as a text -/
def one (c : Int) : ByteArray := ⟨#[UInt8.ofNat c.toNat]⟩
theorem one_list (c : Int) : (one c).data.toList = [UInt8.ofNat c.toNat] := rfl
theorem one_size (c : Int) : (one c).size = 1 := rfl
theorem one_run (W : World) (c : Int) (h0 : 0 ≤ c) (h1 : c ≤ 255) :
    (convert 34 9 (.slice (some ⟨W.heap.size, 0, none⟩) 1 1)).run Tryd.prog (W.alloc (.cells #[.int .u8 c] 5)) = .ok (.string (one c)) (W.alloc (.cells #[.int .u8 c] 5)) :=
  run_convert_bytes_back (P := Tryd.prog) (W.alloc (.cells #[.int .u8 c] 5)) 34 9 5 ⟨W.heap.size, 0, none⟩ 1 [UInt8.ofNat c.toNat] Tryd.underlying34 Tryd.underlying5 Tryd.underlying9 (fun j hj => by
    obtain rfl : j = 0 := by simp at hj; omega
    have h : ((UInt8.ofNat c.toNat).toNat : Int) = c := by rw [UInt8.toNat_ofNat']; omega
    have := (Blk.new W #[.int .u8 c] 5).cell 0
    simp only [List.getElem_cons_zero, h]
    exact this)

theorem rput_no (n : Int) (w : World) (h : n < 0 ∨ 2147483647 < n) : Calls Tryd.prog 11 #[.int .i64 n] w fun e w' => e = .returned (.tuple #[.string ⟨#[]⟩, .int .i64 3]) ∧ Below w.heap.size w w' := by
  rcases h with h | h
  · go_enter Tryd.func11, Tryd.ntmps11
    go_wp2
    go_ret2
    exact ⟨rfl, Below.refl _ _⟩
  · have h0 : 0 ≤ n := by omega
    go_enter Tryd.func11, Tryd.ntmps11
    go_wp2
    go_ret2
    exact ⟨rfl, Below.refl _ _⟩

def PutI (n k : Nat) (s : ByteArray) : Prop := (k = 0 → s.data.toList = Lib.decDigits n) ∧ (0 < k → Lib.decDigits k ++ s.data.toList = Lib.decDigits n)
theorem PutI.size {n k : Nat} {s : ByteArray} (h : PutI n k s) (hn : n ≤ 2147483647) : s.size ≤ 10 := by
  have hl := dec_len 9 n (by omega)
  have hs : s.data.toList.length = s.size := by simp
  rcases Nat.eq_zero_or_pos k with h0 | h0
  · rw [← h.1 h0] at hl; omega
  · rw [← h.2 h0, List.length_append] at hl; omega
theorem PutI.step {n k : Nat} {s : ByteArray} (h : PutI n k s) (h0 : 0 < k) : PutI n (k / 10) (one (48 + (k : Int) % 10) ++ s) := by
  have h2 := h.2 h0
  have e : (one (48 + (k : Int) % 10) ++ s).data.toList = UInt8.ofNat (48 + k % 10) :: s.data.toList := by
    rw [ByteArray.data_append, Array.toList_append, one_list, show (48 + (k : Int) % 10).toNat = 48 + k % 10 from by omega]
    rfl
  refine ⟨fun hz => ?_, fun hp => ?_⟩
  · rw [e, ← h2, dec_small (show k < 10 by omega), show k % 10 = k from by omega]; rfl
  · rw [e, ← h2, dec_big (show ¬ k < 10 by omega), List.append_assoc]; rfl
theorem PutI.init (n : Nat) : PutI n (n / 10) (one (48 + (n : Int) % 10)) := by
  have e : (one (48 + (n : Int) % 10)).data.toList = [UInt8.ofNat (48 + n % 10)] := by
    rw [one_list, show (48 + (n : Int) % 10).toNat = 48 + n % 10 from by omega]
  refine ⟨fun hz => ?_, fun hp => ?_⟩
  · rw [e, dec_small (show n < 10 by omega), show n % 10 = n from by omega]
  · rw [e, dec_big (show ¬ n < 10 by omega)]

set_option maxRecDepth 100000 in
set_option maxHeartbeats 1000000 in
theorem rput_yes (n : Nat) (w : World) (hn : n ≤ 2147483647) : Calls Tryd.prog 11 #[.int .i64 (n : Int)] w fun e w' => e = .returned (.tuple #[.string ⟨(Lib.decDigits n).toArray⟩, .int .i64 0]) ∧ Below w.heap.size w w' := by
  have hcv := one_run w (48 + (n : Int) % 10) (by omega) (by omega)
  go_enter Tryd.func11, Tryd.ntmps11
  go_wp2
  go_loopw [0, 4] (fun m x wr => ∃ (k : Nat) (s : ByteArray), m = .int .i64 (k : Int) ∧ x = .string s ∧ k ≤ 2147483647 ∧ PutI n k s ∧ Below w.heap.size w wr) (fun m _ _ => (intOf m).toNat)
  case atStart =>
    refine ⟨n / 10, _, ?_, rfl, by omega, PutI.init n, (Below.refl _ _).alloc (Nat.le_refl _) _⟩
    go_num
  case round =>
    obtain ⟨k, s, rfl, rfl, hk, hp, hB⟩ := hrel
    have hsz := hp.size hn
    have hsz' : (s.size : Int) ≤ 10 := by omega
    have hos := one_size (48 + (k : Int) % 10)
    have hcv2 := one_run wr (48 + (k : Int) % 10) (by omega) (by omega)
    have HP := Lib.hid hp
    have HB := Lib.hid hB
    clear hp hB hcv
    by_cases h0 : k = 0
    · subst h0
      go_wp2
      go_ret2
      refine ⟨?_, HB.out⟩
      show Ending.returned (.tuple #[.string s, .int .i64 0]) = _
      rw [← HP.out.1 rfl]
    · have h0' : (0 : Int) < (k : Int) := by omega
      go_wp2
      refine ⟨⟨k / 10, _, by go_num, rfl, by omega, HP.out.step (by omega), HB.out.alloc HB.out.size _⟩, ?_⟩
      simp [intOf]; omega

theorem rdelta_no (n : Int) (w : World) (h : n < 0 ∨ 2147483647 < n) : Calls Tryd.prog 17 #[.int .i64 n] w fun e w' => e = .returned (.tuple #[.string ⟨#[]⟩, .int .i64 3]) ∧ Below w.heap.size w w' := by
  rcases h with h | h
  · go_enter Tryd.func17, Tryd.ntmps17
    go_wp2
    go_ret2
    exact ⟨rfl, Below.refl _ _⟩
  · have h0 : 0 ≤ n := by omega
    go_enter Tryd.func17, Tryd.ntmps17
    go_wp2
    go_ret2
    exact ⟨rfl, Below.refl _ _⟩

def DelI (n k : Nat) (s : ByteArray) : Prop := s.data.toList ++ grp k = grp n
theorem DelI.size {n k : Nat} {s : ByteArray} (h : DelI n k s) (hn : n ≤ 2147483647) : s.size ≤ 5 := by
  have hl := grp_len 4 n (by omega)
  have hs : s.data.toList.length = s.size := by simp
  rw [← h, List.length_append] at hl
  omega
theorem DelI.step {n k : Nat} {s : ByteArray} (h : DelI n k s) (h0 : ¬ k < 128) : DelI n (k / 128) (s ++ one (128 + (k : Int) % 128)) := by
  unfold DelI at h ⊢
  rw [← h, grp_big h0, ByteArray.data_append, Array.toList_append, one_list, List.append_assoc, show (128 + (k : Int) % 128).toNat = k % 128 + 128 from by omega]
  rfl
theorem DelI.last {n k : Nat} {s : ByteArray} (h : DelI n k s) (h0 : k < 128) : (s ++ one (k : Int)).data.toList = grp n := by
  unfold DelI at h
  rw [← h, grp_small h0, ByteArray.data_append, Array.toList_append, one_list, Int.toNat_natCast]

set_option maxRecDepth 100000 in
set_option maxHeartbeats 1000000 in
theorem rdelta_yes (n : Nat) (w : World) (hn : n ≤ 2147483647) : Calls Tryd.prog 17 #[.int .i64 (n : Int)] w fun e w' => e = .returned (.tuple #[.string ⟨(grp n).toArray⟩, .int .i64 0]) ∧ Below w.heap.size w w' := by
  go_enter Tryd.func17, Tryd.ntmps17
  go_wp2
  go_loopw [0, 4] (fun m x wr => ∃ (k : Nat) (s : ByteArray), m = .int .i64 (k : Int) ∧ x = .string s ∧ k ≤ 2147483647 ∧ DelI n k s ∧ Below w.heap.size w wr) (fun m _ _ => (intOf m).toNat)
  case atStart => exact ⟨n, _, rfl, rfl, hn, rfl, Below.refl _ _⟩
  case round =>
    obtain ⟨k, s, rfl, rfl, hk, hp, hB⟩ := hrel
    have hsz := hp.size hn
    have hsz' : (s.size : Int) ≤ 5 := by omega
    have HP := Lib.hid hp
    have HB := Lib.hid hB
    clear hp hB
    by_cases h0 : k < 128
    · have h0' : (k : Int) ≤ 127 := by omega
      have hcv := one_run wr (k : Int) (by omega) (by omega)
      have hos := one_size (k : Int)
      go_wp2
      go_ret2
      refine ⟨?_, HB.out.alloc HB.out.size _⟩
      show Ending.returned (.tuple #[.string (s ++ one (k : Int)), .int .i64 0]) = _
      rw [← HP.out.last h0]
    · have h0' : (127 : Int) < (k : Int) := by omega
      have hos := one_size (128 + (k : Int) % 128)
      have hcv := one_run wr (128 + (k : Int) % 128) (by omega) (by omega)
      go_wp2
      refine ⟨⟨k / 128, _, by go_num, rfl, by omega, HP.out.step h0, HB.out.alloc HB.out.size _⟩, ?_⟩
      simp [intOf]; omega
end Go.Proofs.YtkemaaohmfdhbaaDoor
