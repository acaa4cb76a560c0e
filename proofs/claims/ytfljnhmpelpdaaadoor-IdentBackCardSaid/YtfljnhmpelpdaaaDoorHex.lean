/- Two digits for each byte, and back. -/
import Derived.Test.YtfljnhmpelpdaaaDoorLegal
import Derived.Deep.RegionHeld3
import Derived.Deep.AppendLies
import Derived.StillTactics
import Derived.Laws.Pointers
import Derived.Laws.IdiomStrings
namespace Go.Proofs.YtfljnhmpelpdaaaDoor
open Go.RowKit

theorem all256 (p : UInt8 → Bool) (h : ∀ i : Fin 256, p (UInt8.ofNat i.val) = true) (c : UInt8) : p c = true := by
  have := h ⟨c.toNat, c.toNat_lt⟩
  simpa using this
def hexD : ByteArray := ⟨#[48, 49, 50, 51, 52, 53, 54, 55, 56, 57, 97, 98, 99, 100, 101, 102]⟩
/-- a digit of sixteen -/
def hd (n : Nat) : UInt8 := hexD.data.toList.getD n 0
def hexC (c : UInt8) : List UInt8 := [hd (c.toNat / 16), hd (c.toNat % 16)]
def hexL (l : List UInt8) : List UInt8 := l.flatMap hexC
def byc (c : UInt8) : List Value := [.int .u8 (c.toNat : Int)]
theorem byc_len (c : UInt8) : (byc c).length = 1 := rfl
theorem and15 (c : UInt8) : bits BinOp.and IntKind.u8 (c.toNat : Int) 15 = (c.toNat : Int) % 16 := by
  have := all256 (fun c => decide (bits BinOp.and IntKind.u8 (c.toNat : Int) 15 = (c.toNat : Int) % 16)) (by decide +kernel) c
  simpa using this
theorem ownsRow_succ {W : World} {B : Nat} {e : TypeId} {z : Nat} {v : Value} {k : Nat} {xs : List Value} (h : W.ownsRow B e z v (k + 1) xs) : ∃ g cap, v = .slice (some ⟨g, 0, none⟩) (k + 1) cap := by
  rcases h.2 with ⟨_, h0⟩ | ⟨g, cap, cur, rfl, _⟩
  · cases h0
  · exact ⟨g, cap, rfl⟩
theorem hexD_run (n : Nat) (h : n < 16) (w : World) : (Instr.index 9 (.string ⟨#[48, 49, 50, 51, 52, 53, 54, 55, 56, 57, 97, 98, 99, 100, 101, 102]⟩) (.int .u8 (n : Int))).run Tryd.prog w = .ok (.int .u8 ((hd n).toNat : Int)) w := by
  rw [run_index_string w 9 _ .u8 (n : Int) Tryd.underlying9]
  have hn : n = 0 ∨ n = 1 ∨ n = 2 ∨ n = 3 ∨ n = 4 ∨ n = 5 ∨ n = 6 ∨ n = 7 ∨ n = 8 ∨ n = 9 ∨ n = 10 ∨ n = 11 ∨ n = 12 ∨ n = 13 ∨ n = 14 ∨ n = 15 := by omega
  rcases hn with h | h | h | h | h | h | h | h | h | h | h | h | h | h | h | h <;> subst h <;> rfl
theorem info5 : (Tryd.prog.info? 5).map (fun i => (i.zero, i.size, i.bytes)) = some (some (.int .u8 0), 1, 1) := by kernel_rfl
theorem hex_take (s : ByteArray) (k : Nat) (h : k < s.size) : hexL (s.data.toList.take (k + 1)) = hexL (s.data.toList.take k) ++ hexC s[k] := by
  have : s.data.toList[k]? = some s[k] := by
    rw [List.getElem?_eq_getElem (by simpa using h)]; rfl
  unfold hexL
  rw [List.take_add_one, this, List.flatMap_append]
  simp
theorem hexL_len (l : List UInt8) : (hexL l).length = 2 * l.length := by
  unfold hexL
  induction l with
  | nil => rfl
  | cons c l ih => rw [List.flatMap_cons, List.length_append, ih]; simp [hexC]; omega

set_option maxRecDepth 100000 in
set_option maxHeartbeats 1000000 in
theorem toHex_any (s : ByteArray) (w : World) (h0 : 0 < s.size) (hs : s.size ≤ 40) :
    Calls Tryd.prog 32 #[.string s] w fun e w' => e = .returned (.string ⟨(hexL s.data.toList).toArray⟩) ∧ Below w.heap.size w w' := by
  obtain ⟨i0, hi, hz0, hz1, hz2⟩ := info_parts info5
  go_enter Tryd.func32, Tryd.ntmps32
  go_wp2
  go_loopw [3, 7] (fun v i wr => ∃ k : Nat, k ≤ s.size ∧ i = .int .i64 (k : Int) ∧ wr.ownsRow w.heap.size 5 1 v (2 * k) ((hexL (s.data.toList.take k)).flatMap byc) ∧ Below w.heap.size w wr) (fun _ i _ => s.size - (intOf i).toNat)
  case atStart => exact ⟨0, Nat.zero_le _, rfl, World.ownsRow_nil _ _ _ _, Below.refl _ _⟩
  case round =>
    obtain ⟨k, hk, rfl, hrow, hB⟩ := hrel
    by_cases hlt : k < s.size
    · have hlt' : (k : Int) < (s.size : Int) := by omega
      have hix := get_run s k hlt
      have HTK := Lib.hid (hex_take s k hlt)
      generalize s[k] = c at hix HTK
      have h15 := and15 c
      have hn1 := hexD_run (c.toNat / 16) (by have := c.toNat_lt; omega)
      have hn2 := hexD_run (c.toNat % 16) (by omega)
      rw [show ((c.toNat / 16 : Nat) : Int) = (c.toNat : Int) / 16 from by omega] at hn1
      rw [show ((c.toNat % 16 : Nat) : Int) = (c.toNat : Int) % 16 from by omega] at hn2
      have HC := Lib.hid (show hexC c = [hd (c.toNat / 16), hd (c.toNat % 16)] from rfl)
      generalize hd (c.toNat / 16) = d1 at hn1 HC
      generalize hd (c.toNat % 16) = d2 at hn2 HC
      generalize (c.toNat : Int) = z at hix h15 hn1 hn2
      have hBs := hB.size
      have HR := Lib.hid hrow
      have HB := Lib.hid hB
      clear hrow hB
      go_wp2_with fail
      go_region_held3 (fun _ => True) (trivial)
        ((refine step_append_lies _ (by rfl) _ _ _ (by rfl) w.heap.size 5 i0 _ 1 1 Tryd.underlying77 hi hz0 hz1 hz2 rfl (by omega) u3 (2 * k) _ (by rfl) ((HR.out.alloc _).drew) ⟨wr.heap.size, 0, none⟩ 2 2 [.int .u8 (d1.toNat : Int), .int .u8 (d2.toNat : Int)] (by rfl) (by rfl) (World.news_of_block (cs := #[.int .u8 (d1.toNat : Int), .int .u8 (d2.toNat : Int)]) (t := 5) (fr := (0, 0)) (heap_alloc_new wr _)) (fun x hx => by simp at hx; rcases hx with rfl | rfl <;> rfl) (by omega) (by unfold maxLen; omega) (by omega) (by simp; omega) (wr.heap.size + 1) (by simp) ?_; intro gg cap w1 hown1 hgrow hat hlt2))
      all_goals
        have HO := Lib.hid hown1
        have HG := Lib.hid (Below.grown ((HB.out.alloc hBs (.cells #[.int .u8 (d1.toNat : Int), .int .u8 (d2.toNat : Int)] 5)).drew) hgrow (by simp; omega) (fun j hj => (HR.out.lt j hj).1))
        clear hown1 hgrow
        go_wp2
        refine ⟨⟨k + 1, by omega, by go_num, ?_, HG.out⟩, ?_⟩
        · rw [HTK.out, flat_append, HC.out, show 2 * (k + 1) = 2 * k + 2 from by omega]
          exact HO.out
        · simp [intOf]; omega
    · have hge : (s.size : Int) ≤ (k : Int) := by omega
      have hkl : k = s.size := by omega
      subst hkl
      obtain ⟨m, hm⟩ : ∃ m, 2 * s.size = m + 1 := ⟨2 * s.size - 1, by omega⟩
      have htk : s.data.toList.take s.size = s.data.toList := List.take_of_length_le (by simp)
      rw [htk] at hrow
      have hll : (hexL s.data.toList).length = m + 1 := by rw [hexL_len]; simp; omega
      rw [hm] at hrow
      obtain ⟨g, cap, rfl⟩ := ownsRow_succ hrow
      have hcv := run_convert_bytes_back (P := Tryd.prog) wr 77 9 5 ⟨g, 0, none⟩ cap (hexL s.data.toList) Tryd.underlying77 Tryd.underlying5 Tryd.underlying9 (fun j hj => by
        have := hrow.cells (g := g) rfl j (.int .u8 ((hexL s.data.toList)[j].toNat : Int)) (by
          have h1 := flat_at (ec := byc) byc_len (hexL s.data.toList) j (hexL s.data.toList)[j] (List.getElem?_eq_getElem hj) 0 (by omega)
          simpa [byc] using h1)
        exact this)
      rw [hll] at hcv
      have HB := Lib.hid hB
      clear hrow hB hll hm htk
      go_wp2
      go_ret
      exact ⟨rfl, HB.out⟩
end Go.Proofs.YtfljnhmpelpdaaaDoor
