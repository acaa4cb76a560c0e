/- Where a name stands. -/
import Derived.Test.YtadodccciejghaaSide
namespace Go.Proofs.Ytadodccciejghaa
open Go.RowKit Go.Maps
set_option maxRecDepth 100000

/-- the place of a text; -1: there is none -/
def Placed (l : List ByteArray) (s : ByteArray) (i : Int) : Prop := (s ∉ l ∧ i = -1) ∨ ∃ n : Nat, l[n]? = some s ∧ i = (n : Int)

set_option maxHeartbeats 1000000 in
theorem place_any (l : List ByteArray) (b : Nat) (tw : Bool) (s : ByteArray) (w : World) (hs : s.size ≤ maxLen) (hown : w.ownsMap Try.prog 9 (plainElem Try.prog 3) b l.length (plD l l.length)) :
    Calls Try.prog 64 #[.agg #[.map (some b), .bool tw], .string s] w fun e w' => ∃ i, e = .returned (.int .i64 i) ∧ Placed l s i ∧ Below w.heap.size w w' := by
  have hkey := key9 s hs
  have hown1 := hown.alloc (.cells #[.map (some b), .bool tw] 101)
  have HAS := Lib.hid (pl_has l s l.length (Nat.le_refl _))
  rw [List.take_length] at HAS
  cases hu : usedB l s
  · have HN := Lib.hid (show s ∉ l from fun h => by rw [(usedB_iff l s).2 h] at hu; cases hu)
    rw [hu] at HAS
    clear hu
    go_enter Try.func64, Try.ntmps64
    go_wp2_with (at_lookup; refine wpList_lookup_own_ok_int (H := Unit) _ rfl _ _ 99 rfl 9 3 .i64 law9 Try.underlying99 Try.underlying3 (zero3 _) _ l.length _ rfl hown1 _ _ rfl hkey ?_; intro cc hat hwc; clear hat hwc; rw [HAS.out])
    go_ret
    exact ⟨-1, rfl, .inl ⟨HN.out, rfl⟩, (Below.refl _ _).alloc (Nat.le_refl _) _⟩
  · have hm := (usedB_iff l s).1 hu
    have HAT := Lib.hid (pl_at l s (.lit (.int .i64 0)) l.length (Nat.le_refl _) (by rw [List.take_length]; exact hm))
    rw [hu] at HAS
    clear hu hm
    go_enter Try.func64, Try.ntmps64
    go_wp2_with (at_lookup; refine wpList_lookup_own_ok_int (H := Unit) _ rfl _ _ 99 rfl 9 3 .i64 law9 Try.underlying99 Try.underlying3 (zero3 _) _ l.length _ rfl hown1 _ _ rfl hkey ?_; intro cc hat hwc; have HC := Lib.hid hat; clear hat hwc; rw [HAS.out])
    go_ret
    obtain ⟨n, _, h2, h3⟩ := HAT.out
    have hc : (n : Int) = cc := by
      have h4 := HC.out
      rw [h3] at h4
      injection h4 with h4
      injection h4
    exact ⟨cc, rfl, .inr ⟨n, h2, hc.symm⟩, (Below.refl _ _).alloc (Nat.le_refl _) _⟩
end Go.Proofs.Ytadodccciejghaa
