/- Two rows in one variable, each of which grows. -/
import Derived.Test.YtadodccciejghaaRow2
import Derived.Test.YtadodccciejghaaClone
import Derived.Test.YtadodccciejghaaRange
import Derived.RangeFuncBox
namespace Go.Proofs.Ytadodccciejghaa
open Go.RowKit
set_option maxRecDepth 100000

/-- the block of a row is no other block that is turned -/
theorem row_not {W : World} {base : Nat} {e : TypeId} {z : Nat} {v : Value} {n : Nat} {xs : List Value} (h : W.ownsRow base e z v n xs) {row : Option Nat} (hr : ∀ r, row = some r → r < base ∨ W.heap.size ≤ r ∨ ∃ o : Obj, W.heap[r]? = some o ∧ o.isCells = false) : v.ownBlock = none ∨ v.ownBlock ≠ row := by
  rcases h.2 with ⟨rfl, _⟩ | ⟨g, cap, cur, rfl, hb, hg, _⟩
  · exact .inl rfl
  · refine .inr fun e' => ?_
    have hlt := (Array.getElem?_eq_some_iff.1 hg).1
    rcases hr g (by simpa [Value.ownBlock] using e'.symm) with h1 | h1 | ⟨o, h1, h2⟩
    · omega
    · omega
    · rw [hg] at h1; cases h1; cases h2
theorem below_grown {W W' : World} (h : Below W.heap.size W W') : W.grownBy W' none := ⟨h.os, h.tape, h.output, h.size, fun k hk _ => h.block k hk⟩
/-- what has grown but for a block has so behind more that lies behind -/
theorem grown_below {A W W' : World} {row : Option Nat} (h : A.grownBy W row) (hb : Below W.heap.size W W') : A.grownBy W' row :=
  ⟨hb.os.trans h.os, hb.tape.trans h.tape, hb.output.trans h.output, Nat.le_trans h.size hb.size, fun k hk hr => (hb.block k (Nat.lt_of_lt_of_le hk h.size)).trans (h.block k hk hr)⟩
theorem grown_more {A W W' : World} {row row' : Option Nat} (h : A.grownBy W row) (hg : W.grownBy W' row') (hr : ∀ r, row' = some r → A.heap.size ≤ r) : A.grownBy W' row :=
  ⟨hg.os.trans h.os, hg.tape.trans h.tape, hg.output.trans h.output, Nat.le_trans h.size hg.size, fun k hk hkr => (hg.block k (Nat.lt_of_lt_of_le hk h.size) (fun e => by have := hr k e.symm; omega)).trans (h.block k hk hkr)⟩
/-- the two rows of what is made, in the variable's block -/
def Two (t : TypeId) (B N : Nat) (W : World) (a b : List ByteArray) : Prop :=
  ∃ x y, Blk W B #[x, y] t ∧ W.ownsRow N 9 1 x a.length (a.flatMap stc) ∧ W.ownsRow N 9 1 y b.length (b.flatMap stc) ∧ (x.ownBlock = none ∨ x.ownBlock ≠ y.ownBlock)
theorem Two.kept {t : TypeId} {B N : Nat} {W W' : World} {a b : List ByteArray} {row : Option Nat} (h : Two t B N W a b) (hg : W.grownBy W' row) (hr : ∀ r, row = some r → r ≠ B ∧ (r < N ∨ W.heap.size ≤ r ∨ ∃ o : Obj, W.heap[r]? = some o ∧ o.isCells = false)) : Two t B N W' a b := by
  obtain ⟨x, y, h1, h2, h3, h4⟩ := h
  exact ⟨x, y, grown_keeps hg h1 (fun e => (hr _ e).1 rfl), h2.kept hg (row_not h2 (fun r e => (hr r e).2)), h3.kept hg (row_not h3 (fun r e => (hr r e).2)), h4⟩
theorem Two.below {t : TypeId} {B N : Nat} {W W' : World} {a b : List ByteArray} (h : Two t B N W a b) (hb : Below W.heap.size W W') : Two t B N W' a b := by
  obtain ⟨x, y, h1, h2, h3, h4⟩ := h
  exact ⟨x, y, h1.below hb h1.lt, row_below h2 hb, row_below h3 hb, h4⟩

section
variable {W w1 : World} {t : TypeId} {B N : Nat} {x y v' : Value} {a b : List ByteArray} {s : ByteArray} {tmp : Obj}
/-- a row's append, and the store into the variable: what lies as it lay -/
theorem two_rest {j : Nat} (hx : ∀ k, x.ownBlock = some k → N ≤ k) (hxc : ∀ k, x.ownBlock = some k → ∃ cur e, (W.alloc tmp).heap[k]? = some (.cells cur e (0, 0))) (hg : (W.alloc tmp).grownBy w1 x.ownBlock) :
    KeepsOthers W (w1.setCell ⟨B, j, none⟩ v') ∧ (∀ A : World, A.heap.size ≤ N → A.grownBy W (some B) → A.grownBy (w1.setCell ⟨B, j, none⟩ v') (some B)) ∧
      (∀ k, k < W.heap.size → k < N → k ≠ B → (w1.setCell ⟨B, j, none⟩ v').heap[k]? = W.heap[k]?) := by
  refine ⟨?_, ?_, ?_⟩
  · refine ((KeepsOthers.alloc W tmp).trans (KeepsOthers.of_grownBy hg fun k o ej hj => ?_)).trans (KeepsOthers.setCell _ _ _)
    obtain ⟨cur, e, hc⟩ := hxc k ej
    rw [hc] at hj; cases hj; rfl
  · intro A hA h
    refine ⟨hg.os.trans h.os, hg.tape.trans h.tape, hg.output.trans h.output, ?_, fun k hk hkr => ?_⟩
    · have := hg.size
      have := h.size
      have := (KeepsWalks.setCell w1 ⟨B, j, none⟩ v').size
      simp at *
      omega
    · have hks : k < W.heap.size := Nat.lt_of_lt_of_le hk h.size
      refine (RowKit.Below.heap_setCell w1 ⟨B, j, none⟩ v' k (fun e => hkr (by rw [e]))).trans ((hg.block k (by simp; omega) (fun e => ?_)).trans ((RowKit.Below.heap_alloc W tmp k hks).trans (h.block k hk hkr)))
      have := hx k e.symm
      omega
  · intro k hk hkN hkB
    refine (RowKit.Below.heap_setCell w1 ⟨B, j, none⟩ v' k hkB).trans ((hg.block k (by simp; omega) (fun e => ?_)).trans (RowKit.Below.heap_alloc W tmp k hk))
    have := hx k e.symm
    omega
theorem row_cells {base : Nat} {e : TypeId} {z : Nat} {v : Value} {n : Nat} {xs : List Value} (h : W.ownsRow base e z v n xs) (tmp : Obj) : ∀ k, v.ownBlock = some k → ∃ cur e, (W.alloc tmp).heap[k]? = some (.cells cur e (0, 0)) := by
  intro k hk
  rcases (h.alloc tmp).2 with ⟨rfl, _⟩ | ⟨g, cap, cur, rfl, _, hgb, _⟩
  · simp [Value.ownBlock] at hk
  · obtain rfl : g = k := by simpa [Value.ownBlock] using hk
    exact ⟨_, _, hgb⟩
theorem two_fst (hBN : B < N) (h1 : Blk W B #[x, y] t) (h2 : W.ownsRow N 9 1 x a.length (a.flatMap stc)) (h3 : W.ownsRow N 9 1 y b.length (b.flatMap stc)) (h4 : x.ownBlock = none ∨ x.ownBlock ≠ y.ownBlock)
    (hown : w1.ownsRow N 9 1 v' (a.length + 1) (a.flatMap stc ++ [.string s])) (hg : (W.alloc tmp).grownBy w1 x.ownBlock) (hbk : v'.ownBlock = x.ownBlock ∨ v'.ownBlock = some (W.alloc tmp).heap.size) :
    Blk w1 B #[x, y] t ∧ Blk (w1.setCell ⟨B, 0, none⟩ v') B #[v', y] t ∧ (w1.setCell ⟨B, 0, none⟩ v').ownsRow N 9 1 v' (a ++ [s]).length ((a ++ [s]).flatMap stc) ∧ (w1.setCell ⟨B, 0, none⟩ v').ownsRow N 9 1 y b.length (b.flatMap stc) ∧
      (v'.ownBlock = none ∨ v'.ownBlock ≠ y.ownBlock) := by
  have hnx : some B ≠ x.ownBlock := fun e => by have := (h2.lt B e.symm).1; omega
  have k1 : Blk w1 B #[x, y] t := grown_keeps hg (h1.alloc tmp) (fun e => hnx e.symm)
  have r3 : w1.ownsRow N 9 1 y b.length (b.flatMap stc) := (h3.alloc tmp).kept hg (by
    rcases h4 with h4 | h4
    · cases hy : y.ownBlock with
      | none => exact .inl rfl
      | some k => exact .inr (by rw [h4]; simp)
    · exact .inr (Ne.symm h4))
  refine ⟨k1, k1.set 0 v', ?_, row_set r3 (by simpa using hBN) _, ?_⟩
  · refine row_set ?_ (by simpa using hBN) _
    rw [List.length_append, List.flatMap_append]
    exact hown
  · rcases hbk with e | e
    · rw [e]; exact h4
    · refine .inr fun e2 => ?_
      have := (h3.lt _ (e2.symm.trans e)).2
      simp at this
      omega
theorem two_snd (hBN : B < N) (h1 : Blk W B #[x, y] t) (h2 : W.ownsRow N 9 1 x a.length (a.flatMap stc)) (h3 : W.ownsRow N 9 1 y b.length (b.flatMap stc)) (h4 : x.ownBlock = none ∨ x.ownBlock ≠ y.ownBlock)
    (hown : w1.ownsRow N 9 1 v' (b.length + 1) (b.flatMap stc ++ [.string s])) (hg : (W.alloc tmp).grownBy w1 y.ownBlock) (hbk : v'.ownBlock = y.ownBlock ∨ v'.ownBlock = some (W.alloc tmp).heap.size) :
    Blk w1 B #[x, y] t ∧ Two t B N (w1.setCell ⟨B, 1, none⟩ v') a (b ++ [s]) := by
  have hny : some B ≠ y.ownBlock := fun e => by have := (h3.lt B e.symm).1; omega
  have k1 : Blk w1 B #[x, y] t := grown_keeps hg (h1.alloc tmp) (fun e => hny e.symm)
  have r2 : w1.ownsRow N 9 1 x a.length (a.flatMap stc) := (h2.alloc tmp).kept hg h4
  refine ⟨k1, ⟨x, v', k1.set 1 v', row_set r2 (by simpa using hBN) _, ?_, ?_⟩⟩
  · refine row_set ?_ (by simpa using hBN) _
    rw [List.length_append, List.flatMap_append]
    exact hown
  · rcases hbk with e | e
    · rw [e]; exact h4
    · cases hx : x.ownBlock with
      | none => exact .inl rfl
      | some k =>
        refine .inr fun e2 => ?_
        rw [e] at e2
        have := (h2.lt _ (hx.trans e2)).2
        simp at this
        omega
end
end Go.Proofs.Ytadodccciejghaa
