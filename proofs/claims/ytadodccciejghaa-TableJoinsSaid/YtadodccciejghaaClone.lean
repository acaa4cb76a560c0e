/- A copy of a row of texts. -/
import Derived.Test.YtadodccciejghaaNames
import Derived.OwnWalk
import Derived.Laws.Pointers
import Derived.Lib.SliceRun
namespace Go.Proofs.Ytadodccciejghaa
open Go.RowKit
set_option maxRecDepth 100000

theorem info9 : (Try.prog.info? 9).map (fun i => (i.zero, i.size, i.bytes)) = some (some (.string ⟨#[]⟩), 1, 16) := by kernel_rfl
theorem stc_one (l : List ByteArray) : ∀ y ∈ l.flatMap stc, y.oneCell' = true := by
  intro y hy
  obtain ⟨x, _, hx⟩ := List.mem_flatMap.1 hy
  simp [stc] at hx
  subst hx
  rfl
theorem lst_row {W : World} {B n : Nat} {v : Value} {l : List ByteArray} (h : W.ownsRow B 9 1 v n (l.flatMap stc)) (hn : n = l.length) : Lst stc W v l := by
  subst hn
  exact Lst.of_row h

set_option maxHeartbeats 1000000 in
theorem clone_any (l : List ByteArray) (v : Value) (w : World) (hl : l.length ≤ 100000) (ht : Lst stc w v l) (hn : NilFine v) :
    Calls Try.prog 61 #[v] w fun e w' => ∃ v', e = .returned v' ∧ w'.ownsRow w.heap.size 9 1 v' l.length (l.flatMap stc) ∧ Below w.heap.size w w' := by
  obtain ⟨i0, hi, hz0, hz1, hz2⟩ := info_parts info9
  have HT := Lib.hid ht
  have HN := Lib.hid hn
  obtain ⟨b, c, rfl⟩ := ht.slice
  clear ht hn
  cases b with
  | none =>
    obtain ⟨h0, rfl⟩ := HN.out _ _ rfl
    have hl0 : l = [] := List.eq_nil_of_length_eq_zero h0
    clear h0
    subst hl0
    have hq := fun wx => Lib.run_eql_slice_nil (P := Try.prog) wx 22 9 none 0 0 0 0 Try.underlying22
    simp only [Option.isNone_none] at hq
    go_enter Try.func61, Try.ntmps61
    go_wp2
    go_ret
    exact ⟨_, rfl, ⟨rfl, .inl ⟨rfl, rfl⟩⟩, Below.refl _ _⟩
  | some ad =>
    have R0 := Lib.hid (World.ownsRow_lit (base := w.heap.size) (e := 9) (size := 1) w #[] 0 (Nat.le_refl _) (by decide) rfl)
    have D0 : Below w.heap.size w (w.alloc (.cells #[] 9)) := (Below.refl w.heap.size w).alloc (Nat.le_refl _) (.cells #[] 9)
    have DD := Lib.hid D0
    have VA := Lib.hid (HT.out.below D0)
    clear D0
    have hq := fun wx => Lib.run_eql_slice_nil (P := Try.prog) wx 22 9 (some ad) l.length c 0 0 Try.underlying22
    simp only [Option.isNone_some] at hq
    go_enter Try.func61, Try.ntmps61
    go_wp2_with (at_builtin; refine wpList_append_lst (ec := stc) rfl _ _ 22 rfl w.heap.size 9 i0 (.string ⟨#[]⟩) 1 16 Try.underlying22 hi hz0 hz1 hz2 rfl (by decide) _ 0 _ rfl R0.out _ l rfl VA.out HN.out stc_len (stc_one _) (by unfold maxLen; omega) (by omega) (by first | (simp; done) | (simp; omega) | omega) ?_; intro v1 w1 r1 g1)
    have D1 := Lib.hid (DD.out.grown g1 (by simp) (fun k e => by cases e; exact Nat.le_refl _))
    have hr : w1.ownsRow w.heap.size 9 1 v1 (0 + l.length) (l.flatMap stc) := by simpa using r1
    have L1 := Lib.hid (show w1.ownsRow w.heap.size 9 1 v1 l.length (l.flatMap stc) by rw [Nat.zero_add] at hr; exact hr)
    clear r1 g1 hr
    go_ret
    exact ⟨_, rfl, L1.out, D1.out⟩
/-- a row of the call's own is what it is when a cell ahead of it is set -/
theorem row_set {W : World} {B : Nat} {e : TypeId} {z : Nat} {v : Value} {n : Nat} {xs : List Value} (h : W.ownsRow B e z v n xs) {p : Addr} (hp : p.block < B) (x : Value) : (W.setCell p x).ownsRow B e z v n xs := by
  refine ⟨h.1, ?_⟩
  rcases h.2 with h2 | ⟨g, cap, cur, h1, h2, h3, h4⟩
  · exact .inl h2
  · exact .inr ⟨g, cap, cur, h1, h2, (RowKit.Below.heap_setCell _ _ _ _ (by omega)).trans h3, h4⟩
theorem row_below {W W' : World} {B : Nat} {e : TypeId} {z : Nat} {v : Value} {n : Nat} {xs : List Value} (h : W.ownsRow B e z v n xs) (hb : Below W.heap.size W W') : W'.ownsRow B e z v n xs := by
  refine ⟨h.1, ?_⟩
  rcases h.2 with h2 | ⟨g, cap, cur, h1, h2, h3, h4⟩
  · exact .inl h2
  · exact .inr ⟨g, cap, cur, h1, h2, (hb.block g (Array.getElem?_eq_some_iff.1 h3).1).trans h3, h4⟩
theorem row_mono {W : World} {B B' : Nat} {e : TypeId} {z : Nat} {v : Value} {n : Nat} {xs : List Value} (h : W.ownsRow B e z v n xs) (hb : B' ≤ B) : W.ownsRow B' e z v n xs := by
  refine ⟨h.1, ?_⟩
  rcases h.2 with h2 | ⟨g, cap, cur, h1, h2, h3, h4⟩
  · exact .inl h2
  · exact .inr ⟨g, cap, cur, h1, Nat.le_trans hb h2, h3, h4⟩
theorem row_slice {W : World} {B : Nat} {e : TypeId} {z : Nat} {v : Value} {n : Nat} {xs : List Value} (h : W.ownsRow B e z v n xs) : ∃ b c, v = .slice b n c := by
  rcases h.2 with ⟨rfl, rfl⟩ | ⟨g, cap, cur, rfl, _⟩
  · exact ⟨_, _, rfl⟩
  · exact ⟨_, _, rfl⟩
end Go.Proofs.Ytadodccciejghaa
