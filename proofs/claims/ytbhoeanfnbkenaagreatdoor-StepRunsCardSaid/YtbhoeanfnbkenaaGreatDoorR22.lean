import Derived.Test.YtbhoeanfnbkenaaGreatDoorR21
import Derived.Test.YtbhoeanfnbkenaaGreatDoorR18
namespace Go.Proofs.YtbhoeanfnbkenaaGreatDoor
open Go.RowKit Go.WideMaps
set_option maxRecDepth 100000
set_option linter.unusedSimpArgs false
variable (Hy : World → Prop)
attribute [local irreducible] zU zY cwp z1 z6 lpQ z8 asQ bdQ bdY zab zac zad zaa
theorem zgh {c : Ci} (h : (zai c).1 = 0) : za4 c = none ∧ zao (zar c) = none ∧ zaL (z2 c) = none := by
 have h1 : za4 c = none := by
  cases hl : za4 c with
  | none => rfl
  | some w =>
   have e : w = (8, zba) := by
    unfold za4 at hl
    split at hl
    ·cases hl; rfl
    ·cases hl
   unfold zai zay at h
   rw [hl, e] at h
   exact absurd (show (8 : Int) = 0 from h) (by decide)
 have h2 : zao (zar c) = none := by
  cases hl : zao (zar c) with
  | none => rfl
  | some w =>
   unfold zai zay at h
   rw [h1, hl] at h
   unfold zao at hl
   obtain ⟨s, _, rfl⟩ := Option.map_eq_some_iff.1 hl
   exact absurd (show (4 : Int) = 0 from h) (by decide)
 have h3 : zaL (z2 c) = none := by
  cases hl : zaL (z2 c) with
  | none => rfl
  | some w =>
   unfold zai zay at h
   rw [h1, h2, hl] at h
   unfold zaL at hl
   obtain ⟨s, _, rfl⟩ := Option.map_eq_some_iff.1 hl
   exact absurd (show (5 : Int) = 0 from h) (by decide)
 exact ⟨h1, h2, h3⟩
theorem zjj {c : Ci} (h : (zai c).1 = 0) : MOk c := by
 obtain ⟨h1, h2, h3⟩ := zgh h
 obtain ⟨⟨l1, l2⟩, l3⟩ := zeP h1
 have hn := zeQ h2
 have hsz : ∀ s ∈ zar c, s.size ≤ 1000000 := fun s hs => Nat.le_trans (zeR (hn s hs)) (by decide)
 refine ⟨zdv h, fun s hs => hsz s ?_, fun x hx => ⟨hsz _ ?_, hsz _ ?_⟩, ⟨(zd7 _ [] (Option.map_eq_none_iff.1 h3)).1⟩, by rw [zb6]; omega⟩
 ·exact List.mem_append_left _ hs
 ·exact List.mem_append_right _ (List.mem_append_right _ (List.mem_append_left _ (List.mem_flatMap.2 ⟨x, hx, List.mem_cons_self⟩)))
 ·exact List.mem_append_right _ (List.mem_append_right _ (List.mem_append_left _ (List.mem_flatMap.2 ⟨x, hx, List.mem_cons_of_mem _ List.mem_cons_self⟩)))
theorem zeW {c : Ci} (h : (zai c).1 = 0) : ∀ s ∈ z2 c, s.size ≤ 1000000 := fun s hs => Nat.le_trans (zeR (zeQ (zgh h).2.1 s (ziQ hs))) (by decide)
end Go.Proofs.YtbhoeanfnbkenaaGreatDoor
namespace Go.Proofs.YtbhoeanfnbkenaaGreatDoor
open Go.RowKit Go.WideMaps
set_option maxRecDepth 100000
set_option linter.unusedSimpArgs false
variable (Hy : World → Prop)
attribute [local irreducible] zU zY cwp z1 z6 lpQ z8 asQ bdQ bdY zab zac zad zaa
def lvL (n : Nat) (lv : Nat → Int) : List Int := (List.range n).map lv
theorem zjk (n : Nat) (lv : Nat → Int) : (lvL n lv).length = n := by simp [lvL]
def zgi (lv : Nat → Int) (k : Nat) (x : Int) : Nat → Int := fun j => if j = k then x else lv j
def LvB (b : Int) (lv : Nat → Int) : Prop := ∀ j, -1 ≤ lv j ∧ lv j ≤ b
theorem LvB.upd {b b' : Int} {lv : Nat → Int} (h : LvB b lv) (k : Nat) {x : Int} (hb : b ≤ b') (h1 : -1 ≤ x) (h2 : x ≤ b') : LvB b' (zgi lv k x) := fun j => by
 unfold zgi
 have := h j
 split <;> omega
attribute [go_sem] zjk
end Go.Proofs.YtbhoeanfnbkenaaGreatDoor
namespace Go.Proofs.YtbhoeanfnbkenaaGreatDoor
open Go.RowKit Go.WideMaps
set_option maxRecDepth 100000
set_option linter.unusedSimpArgs false
def nG (gs : List Gt) (lv : Nat → Int) (i k : Nat) : Int := (List.range k).foldl (fun n j => if zdj (gat gs i).ins (gat gs j).name then max n (lv j + 1) else n) 0
theorem zgj (gs : List Gt) (lv : Nat → Int) (i k : Nat) : nG gs lv i (k + 1) = if zdj (gat gs i).ins (gat gs k).name then max (nG gs lv i k) (lv k + 1) else nG gs lv i k := by
 unfold nG
 rw [List.range_succ, List.foldl_append]
 rfl
theorem zgk (gs : List Gt) (lv : Nat → Int) (i : Nat) (b : Int) : ∀ k, nG gs lv i k ≤ b ↔ 0 ≤ b ∧ ∀ j, j < k → zdj (gat gs i).ins (gat gs j).name = true → lv j + 1 ≤ b
 | 0 => ⟨fun h => ⟨h, fun j hj => absurd hj (by omega)⟩, fun h => h.1⟩
 | k + 1 => by
  have ih := zgk gs lv i b k
  rw [zgj]
  constructor
  ·intro h
   split at h
   ·rename_i hu
    have h1 : nG gs lv i k ≤ b := by omega
    obtain ⟨h0, h2⟩ := ih.1 h1
    refine ⟨h0, fun j hj hj2 => ?_⟩
    by_cases e : j = k
    ·subst e; omega
    ·exact h2 j (by omega) hj2
   ·rename_i hu
    obtain ⟨h0, h2⟩ := ih.1 h
    refine ⟨h0, fun j hj hj2 => ?_⟩
    by_cases e : j = k
    ·subst e; exact absurd hj2 hu
    ·exact h2 j (by omega) hj2
  ·rintro ⟨h0, h2⟩
   have h1 := ih.2 ⟨h0, fun j hj => h2 j (by omega)⟩
   split
   ·rename_i hu
    have := h2 k (by omega) hu
    omega
   ·exact h1
theorem zgl (gs : List Gt) (lv : Nat → Int) (i : Nat) : ∀ k, 0 ≤ nG gs lv i k
 | 0 => Int.le_refl _
 | k + 1 => by
  have := zgl gs lv i k
  rw [zgj]
  split <;> omega
theorem LvB.next {gs : List Gt} {b : Int} {lv : Nat → Int} (h : LvB b lv) (h0 : 0 ≤ b) (i k : Nat) : 0 ≤ nG gs lv i k ∧ nG gs lv i k ≤ b + 1 := ⟨zgl gs lv i k, (zgk gs lv i (b + 1) k).2 ⟨by omega, fun j _ _ => by have := h j; omega⟩⟩
end Go.Proofs.YtbhoeanfnbkenaaGreatDoor
