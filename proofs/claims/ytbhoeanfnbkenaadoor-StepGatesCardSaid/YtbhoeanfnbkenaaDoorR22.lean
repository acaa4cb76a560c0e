import Derived.Test.YtbhoeanfnbkenaaDoorR21
import Derived.Test.YtbhoeanfnbkenaaDoorR18
namespace Go.Proofs.YtbhoeanfnbkenaaDoor
open Go.RowKit Go.WideMaps
set_option maxRecDepth 100000
set_option linter.unusedSimpArgs false
variable (Hy : World → Prop)
attribute [local irreducible] runM runD cwp seqQ blkQ lpQ retQ asQ bdQ bdY retP endR preD retD
theorem chk_parts {c : Ci} (h : (checkC c).1 = 0) : limitW c = none ∧ namesW (toldC c) = none ∧ twiceW (netsC c) = none := by
  have h1 : limitW c = none := by
    cases hl : limitW c with
    | none => rfl
    | some w =>
      have e : w = (8, noneT) := by
        unfold limitW at hl
        split at hl
        · cases hl; rfl
        · cases hl
      unfold checkC checkW at h
      rw [hl, e] at h
      exact absurd (show (8 : Int) = 0 from h) (by decide)
  have h2 : namesW (toldC c) = none := by
    cases hl : namesW (toldC c) with
    | none => rfl
    | some w =>
      unfold checkC checkW at h
      rw [h1, hl] at h
      unfold namesW at hl
      obtain ⟨s, _, rfl⟩ := Option.map_eq_some_iff.1 hl
      exact absurd (show (4 : Int) = 0 from h) (by decide)
  have h3 : twiceW (netsC c) = none := by
    cases hl : twiceW (netsC c) with
    | none => rfl
    | some w =>
      unfold checkC checkW at h
      rw [h1, h2, hl] at h
      unfold twiceW at hl
      obtain ⟨s, _, rfl⟩ := Option.map_eq_some_iff.1 hl
      exact absurd (show (5 : Int) = 0 from h) (by decide)
  exact ⟨h1, h2, h3⟩
theorem mok_of {c : Ci} (h : (checkC c).1 = 0) : MOk c := by
  obtain ⟨h1, h2, h3⟩ := chk_parts h
  obtain ⟨⟨l1, l2⟩, l3⟩ := limit_fit h1
  have hn := names_fit h2
  have hsz : ∀ s ∈ toldC c, s.size ≤ 1000000 := fun s hs => Nat.le_trans (name_size (hn s hs)) (by decide)
  refine ⟨cok_of h, fun s hs => hsz s ?_, fun x hx => ⟨hsz _ ?_, hsz _ ?_⟩, ⟨(twiceF_nodup _ [] (Option.map_eq_none_iff.1 h3)).1⟩, by rw [nets_le]; omega⟩
  · exact List.mem_append_left _ hs
  · exact List.mem_append_right _ (List.mem_append_right _ (List.mem_append_left _ (List.mem_flatMap.2 ⟨x, hx, List.mem_cons_self⟩)))
  · exact List.mem_append_right _ (List.mem_append_right _ (List.mem_append_left _ (List.mem_flatMap.2 ⟨x, hx, List.mem_cons_of_mem _ List.mem_cons_self⟩)))
theorem nets_size {c : Ci} (h : (checkC c).1 = 0) : ∀ s ∈ netsC c, s.size ≤ 1000000 := fun s hs => Nat.le_trans (name_size (names_fit (chk_parts h).2.1 s (nets_told hs))) (by decide)
end Go.Proofs.YtbhoeanfnbkenaaDoor
namespace Go.Proofs.YtbhoeanfnbkenaaDoor
open Go.RowKit Go.WideMaps
set_option maxRecDepth 100000
set_option linter.unusedSimpArgs false
variable (Hy : World → Prop)
attribute [local irreducible] runM runD cwp seqQ blkQ lpQ retQ asQ bdQ bdY retP endR preD retD
def lvL (n : Nat) (lv : Nat → Int) : List Int := (List.range n).map lv
theorem lvL_len (n : Nat) (lv : Nat → Int) : (lvL n lv).length = n := by simp [lvL]
def updI (lv : Nat → Int) (k : Nat) (x : Int) : Nat → Int := fun j => if j = k then x else lv j
def LvB (b : Int) (lv : Nat → Int) : Prop := ∀ j, -1 ≤ lv j ∧ lv j ≤ b
theorem LvB.upd {b b' : Int} {lv : Nat → Int} (h : LvB b lv) (k : Nat) {x : Int} (hb : b ≤ b') (h1 : -1 ≤ x) (h2 : x ≤ b') : LvB b' (updI lv k x) := fun j => by
  unfold updI
  have := h j
  split <;> omega
attribute [go_sem] lvL_len
end Go.Proofs.YtbhoeanfnbkenaaDoor
namespace Go.Proofs.YtbhoeanfnbkenaaDoor
open Go.RowKit Go.WideMaps
set_option maxRecDepth 100000
set_option linter.unusedSimpArgs false
def nG (gs : List Gt) (lv : Nat → Int) (i k : Nat) : Int := (List.range k).foldl (fun n j => if usedB (gat gs i).ins (gat gs j).name then max n (lv j + 1) else n) 0
theorem nG_succ (gs : List Gt) (lv : Nat → Int) (i k : Nat) : nG gs lv i (k + 1) = if usedB (gat gs i).ins (gat gs k).name then max (nG gs lv i k) (lv k + 1) else nG gs lv i k := by
  unfold nG
  rw [List.range_succ, List.foldl_append]
  rfl
theorem nG_le (gs : List Gt) (lv : Nat → Int) (i : Nat) (b : Int) : ∀ k, nG gs lv i k ≤ b ↔ 0 ≤ b ∧ ∀ j, j < k → usedB (gat gs i).ins (gat gs j).name = true → lv j + 1 ≤ b
  | 0 => ⟨fun h => ⟨h, fun j hj => absurd hj (by omega)⟩, fun h => h.1⟩
  | k + 1 => by
    have ih := nG_le gs lv i b k
    rw [nG_succ]
    constructor
    · intro h
      split at h
      · rename_i hu
        have h1 : nG gs lv i k ≤ b := by omega
        obtain ⟨h0, h2⟩ := ih.1 h1
        refine ⟨h0, fun j hj hj2 => ?_⟩
        by_cases e : j = k
        · subst e; omega
        · exact h2 j (by omega) hj2
      · rename_i hu
        obtain ⟨h0, h2⟩ := ih.1 h
        refine ⟨h0, fun j hj hj2 => ?_⟩
        by_cases e : j = k
        · subst e; exact absurd hj2 hu
        · exact h2 j (by omega) hj2
    · rintro ⟨h0, h2⟩
      have h1 := ih.2 ⟨h0, fun j hj => h2 j (by omega)⟩
      split
      · rename_i hu
        have := h2 k (by omega) hu
        omega
      · exact h1
theorem nG_nn (gs : List Gt) (lv : Nat → Int) (i : Nat) : ∀ k, 0 ≤ nG gs lv i k
  | 0 => Int.le_refl _
  | k + 1 => by
    have := nG_nn gs lv i k
    rw [nG_succ]
    split <;> omega
theorem LvB.next {gs : List Gt} {b : Int} {lv : Nat → Int} (h : LvB b lv) (h0 : 0 ≤ b) (i k : Nat) : 0 ≤ nG gs lv i k ∧ nG gs lv i k ≤ b + 1 := ⟨nG_nn gs lv i k, (nG_le gs lv i (b + 1) k).2 ⟨by omega, fun j _ _ => by have := h j; omega⟩⟩
end Go.Proofs.YtbhoeanfnbkenaaDoor
