/- Texts of one kind together. -/
import Derived.Test.YtfkmolbcgnkfdaaDoorRow
import Derived.Maps.OwnSet
import Derived.Maps.Views
import Derived.Maps.OwnOps
import Derived.Test.YtfkmolbcgnkfdaaDoorGen
import Derived.Test.YtfkmolbcgnkfdaaDoorShelf
/- How many Ins a gate of an op has, at least and at most. -/
namespace Go.Proofs.YtfkmolbcgnkfdaaDoor
open Go.RowKit Go.Maps
attribute [local go_sem] Oper.semAt_some
set_option maxRecDepth 100000
set_option maxHeartbeats 1000000

def pairElem (v : Value) : Option (DataW Unit × List MemPlace) := match v with
  | .agg cs => match cs.toList with
    | [.int .i64 a, .int .i64 b] => some (.agg [.lit (.int .i64 a), .lit (.int .i64 b)], [])
    | _ => none
  | _ => none
theorem pairElem_mk (a b : Int) : pairElem (.agg #[.int .i64 a, .int .i64 b]) = some (.agg [.lit (.int .i64 a), .lit (.int .i64 b)], []) := rfl
theorem pairElem_inv {v : Value} {z : DataW Unit × List MemPlace} (h : pairElem v = some z) : ∃ a b, v = .agg #[.int .i64 a, .int .i64 b] ∧ z = (.agg [.lit (.int .i64 a), .lit (.int .i64 b)], []) := by
  unfold pairElem at h
  split at h
  · split at h
    · rename_i cs _ a b hl
      refine ⟨a, b, ?_, (Option.some.inj h).symm⟩
      have : cs = #[.int .i64 a, .int .i64 b] := by
        apply Array.toList_inj.1
        exact hl
      rw [this]
    · cases h
  · cases h
theorem law37 : Keyed Tryd.prog 37 := int_keyed Tryd.underlying37
theorem key37 (o : Int) (h : (Lit.int .i64 o).wf = true) : keyOf Tryd.prog 37 (.int .i64 o) = some (.int .i64 o) := keyOf_int_mk Tryd.underlying37 h
theorem zero73 (w : World) : (zeroValue 73).run Tryd.prog w = .ok (.agg #[.int .i64 0, .int .i64 0]) w := by kernel_rfl
def loA : Nat → Int
  | 2 => 1 | 3 => 1 | 4 => 2 | 5 => 2 | 6 => 2 | 7 => 2 | 8 => 2 | 9 => 2 | _ => 0
def hiA : Nat → Int
  | 0 => 0 | 1 => 0 | 2 => 1 | 3 => 1 | _ => 8
def arN : Nat → DataW Unit
  | 0 => .map []
  | k + 1 => (arN k).put (.int .i64 (k : Int)) (.agg [.lit (.int .i64 (loA k)), .lit (.int .i64 (hiA k))])
theorem arN_map : ∀ k, IsMap (arN k)
  | 0 => isMap_empty
  | k + 1 => (arN_map k).put _ _
theorem lit_ne {a b : Int} (h : a ≠ b) : (Lit.int .i64 a) ≠ Lit.int .i64 b := fun e => h (by injection e)
theorem arN_has (o : Int) : ∀ k : Nat, Maps.has (arN k) (.int .i64 o) = decide (0 ≤ o ∧ o < k)
  | 0 => by
    rw [decide_eq_false (by omega)]
    rfl
  | k + 1 => by
    rw [arN]
    by_cases h : o = k
    · subst h
      rw [has_put_same (k := .int .i64 (k : Int)) (arN_map k) (by trivial), decide_eq_true (by omega)]
    · rw [has_put_other (lit_ne h), arN_has o k]
      by_cases h2 : 0 ≤ o ∧ o < k
      · rw [decide_eq_true h2, decide_eq_true (by omega)]
      · rw [decide_eq_false h2, decide_eq_false (by omega)]
theorem arN_at (o : Nat) (z : DataW Unit) : ∀ k : Nat, o < k → (arN k).atKey (.int .i64 (o : Int)) z = .agg [.lit (.int .i64 (loA o)), .lit (.int .i64 (hiA o))]
  | 0, h => by omega
  | k + 1, h => by
    rw [arN]
    by_cases e : o = k
    · subst e
      exact atKey_put_same (k := .int .i64 (o : Int)) (arN_map o) (by trivial) _ _
    · rw [atKey_put_other (lit_ne (by omega))]
      exact arN_at o z k (by omega)
theorem arity_any (w : World) : Calls Tryd.prog 64 #[] w fun e w' => ∃ b, e = .returned (.map (some b)) ∧ w'.ownsMap Tryd.prog 37 pairElem b 11 (arN 11) ∧ Below w.heap.size w w' := by
  have hmm := @run_makeMap Tryd.prog
  have K := (Blk.new w #[.int .i64 2, .int .i64 8] 73).alloc (.map #[] 0)
  have c0 := K.cell 0
  have c1 := K.cell 1
  simp at c0 c1
  have HOM := World.ownsMap_made (H := Unit) (w.alloc (.cells #[.int .i64 2, .int .i64 8] 73)) Tryd.prog 37 pairElem
  rw [World.size_alloc] at HOM
  have BB := Lib.hid ((below_one w (.cells #[.int .i64 2, .int .i64 8] 73)).trans ((below_one (w.alloc (.cells #[.int .i64 2, .int .i64 8] 73)) (.map #[] 0)).mono (by simp)))
  go_enter Tryd.func64, Tryd.ntmps64
  go_wp2_with fail
  obtain ⟨w0, hr0, hown0, hg0⟩ := World.ownsMap.update (R := pairElem) (D := arN 0) (n := 0) HOM law37 Tryd.underlying75 (by decide) (key37 0 (by decide)) (pairElem_mk 0 0)
  rw [hr0]
  have hown0 : w0.ownsMap Tryd.prog 37 pairElem (w.heap.size + 1) 1 (arN 1) := hown0
  have K0 : Blk w0 w.heap.size #[.int .i64 2, .int .i64 8] 73 := grown_keeps hg0 K (by simp)
  have B0 := Lib.hid (BB.out.grown hg0 (BB.out.size) (fun j hj => by cases hj; omega))
  clear c0 c1 hr0 hg0 HOM K BB
  have c0 := K0.cell 0
  have c1 := K0.cell 1
  simp at c0 c1
  go_wp2_with fail
  obtain ⟨w1, hr1, hown1, hg1⟩ := World.ownsMap.update (R := pairElem) (D := arN 1) (n := 1) hown0 law37 Tryd.underlying75 (by decide) (key37 1 (by decide)) (pairElem_mk 0 0)
  rw [hr1]
  have hown1 : w1.ownsMap Tryd.prog 37 pairElem (w.heap.size + 1) 2 (arN 2) := hown1
  have K1 : Blk w1 w.heap.size #[.int .i64 2, .int .i64 8] 73 := grown_keeps hg1 K0 (by simp)
  have B1 := Lib.hid (B0.out.grown hg1 (B0.out.size) (fun j hj => by cases hj; omega))
  clear c0 c1 hr1 hg1 hown0 K0 B0
  have c0 := K1.cell 0
  have c1 := K1.cell 1
  simp at c0 c1
  go_wp2_with fail
  obtain ⟨w2, hr2, hown2, hg2⟩ := World.ownsMap.update (R := pairElem) (D := arN 2) (n := 2) hown1 law37 Tryd.underlying75 (by decide) (key37 2 (by decide)) (pairElem_mk 1 1)
  rw [hr2]
  have hown2 : w2.ownsMap Tryd.prog 37 pairElem (w.heap.size + 1) 3 (arN 3) := hown2
  have K2 : Blk w2 w.heap.size #[.int .i64 2, .int .i64 8] 73 := grown_keeps hg2 K1 (by simp)
  have B2 := Lib.hid (B1.out.grown hg2 (B1.out.size) (fun j hj => by cases hj; omega))
  clear c0 c1 hr2 hg2 hown1 K1 B1
  have c0 := K2.cell 0
  have c1 := K2.cell 1
  simp at c0 c1
  go_wp2_with fail
  obtain ⟨w3, hr3, hown3, hg3⟩ := World.ownsMap.update (R := pairElem) (D := arN 3) (n := 3) hown2 law37 Tryd.underlying75 (by decide) (key37 3 (by decide)) (pairElem_mk 1 1)
  rw [hr3]
  have hown3 : w3.ownsMap Tryd.prog 37 pairElem (w.heap.size + 1) 4 (arN 4) := hown3
  have K3 : Blk w3 w.heap.size #[.int .i64 2, .int .i64 8] 73 := grown_keeps hg3 K2 (by simp)
  have B3 := Lib.hid (B2.out.grown hg3 (B2.out.size) (fun j hj => by cases hj; omega))
  clear c0 c1 hr3 hg3 hown2 K2 B2
  have c0 := K3.cell 0
  have c1 := K3.cell 1
  simp at c0 c1
  go_wp2_with fail
  obtain ⟨w4, hr4, hown4, hg4⟩ := World.ownsMap.update (R := pairElem) (D := arN 4) (n := 4) hown3 law37 Tryd.underlying75 (by decide) (key37 4 (by decide)) (pairElem_mk 2 8)
  rw [hr4]
  have hown4 : w4.ownsMap Tryd.prog 37 pairElem (w.heap.size + 1) 5 (arN 5) := hown4
  have K4 : Blk w4 w.heap.size #[.int .i64 2, .int .i64 8] 73 := grown_keeps hg4 K3 (by simp)
  have B4 := Lib.hid (B3.out.grown hg4 (B3.out.size) (fun j hj => by cases hj; omega))
  clear c0 c1 hr4 hg4 hown3 K3 B3
  have c0 := K4.cell 0
  have c1 := K4.cell 1
  simp at c0 c1
  go_wp2_with fail
  obtain ⟨w5, hr5, hown5, hg5⟩ := World.ownsMap.update (R := pairElem) (D := arN 5) (n := 5) hown4 law37 Tryd.underlying75 (by decide) (key37 5 (by decide)) (pairElem_mk 2 8)
  rw [hr5]
  have hown5 : w5.ownsMap Tryd.prog 37 pairElem (w.heap.size + 1) 6 (arN 6) := hown5
  have K5 : Blk w5 w.heap.size #[.int .i64 2, .int .i64 8] 73 := grown_keeps hg5 K4 (by simp)
  have B5 := Lib.hid (B4.out.grown hg5 (B4.out.size) (fun j hj => by cases hj; omega))
  clear c0 c1 hr5 hg5 hown4 K4 B4
  have c0 := K5.cell 0
  have c1 := K5.cell 1
  simp at c0 c1
  go_wp2_with fail
  obtain ⟨w6, hr6, hown6, hg6⟩ := World.ownsMap.update (R := pairElem) (D := arN 6) (n := 6) hown5 law37 Tryd.underlying75 (by decide) (key37 6 (by decide)) (pairElem_mk 2 8)
  rw [hr6]
  have hown6 : w6.ownsMap Tryd.prog 37 pairElem (w.heap.size + 1) 7 (arN 7) := hown6
  have K6 : Blk w6 w.heap.size #[.int .i64 2, .int .i64 8] 73 := grown_keeps hg6 K5 (by simp)
  have B6 := Lib.hid (B5.out.grown hg6 (B5.out.size) (fun j hj => by cases hj; omega))
  clear c0 c1 hr6 hg6 hown5 K5 B5
  have c0 := K6.cell 0
  have c1 := K6.cell 1
  simp at c0 c1
  go_wp2_with fail
  obtain ⟨w7, hr7, hown7, hg7⟩ := World.ownsMap.update (R := pairElem) (D := arN 7) (n := 7) hown6 law37 Tryd.underlying75 (by decide) (key37 7 (by decide)) (pairElem_mk 2 8)
  rw [hr7]
  have hown7 : w7.ownsMap Tryd.prog 37 pairElem (w.heap.size + 1) 8 (arN 8) := hown7
  have K7 : Blk w7 w.heap.size #[.int .i64 2, .int .i64 8] 73 := grown_keeps hg7 K6 (by simp)
  have B7 := Lib.hid (B6.out.grown hg7 (B6.out.size) (fun j hj => by cases hj; omega))
  clear c0 c1 hr7 hg7 hown6 K6 B6
  have c0 := K7.cell 0
  have c1 := K7.cell 1
  simp at c0 c1
  go_wp2_with fail
  obtain ⟨w8, hr8, hown8, hg8⟩ := World.ownsMap.update (R := pairElem) (D := arN 8) (n := 8) hown7 law37 Tryd.underlying75 (by decide) (key37 8 (by decide)) (pairElem_mk 2 8)
  rw [hr8]
  have hown8 : w8.ownsMap Tryd.prog 37 pairElem (w.heap.size + 1) 9 (arN 9) := hown8
  have K8 : Blk w8 w.heap.size #[.int .i64 2, .int .i64 8] 73 := grown_keeps hg8 K7 (by simp)
  have B8 := Lib.hid (B7.out.grown hg8 (B7.out.size) (fun j hj => by cases hj; omega))
  clear c0 c1 hr8 hg8 hown7 K7 B7
  have c0 := K8.cell 0
  have c1 := K8.cell 1
  simp at c0 c1
  go_wp2_with fail
  obtain ⟨w9, hr9, hown9, hg9⟩ := World.ownsMap.update (R := pairElem) (D := arN 9) (n := 9) hown8 law37 Tryd.underlying75 (by decide) (key37 9 (by decide)) (pairElem_mk 2 8)
  rw [hr9]
  have hown9 : w9.ownsMap Tryd.prog 37 pairElem (w.heap.size + 1) 10 (arN 10) := hown9
  have K9 : Blk w9 w.heap.size #[.int .i64 2, .int .i64 8] 73 := grown_keeps hg9 K8 (by simp)
  have B9 := Lib.hid (B8.out.grown hg9 (B8.out.size) (fun j hj => by cases hj; omega))
  clear c0 c1 hr9 hg9 hown8 K8 B8
  have c0 := K9.cell 0
  have c1 := K9.cell 1
  simp at c0 c1
  go_wp2_with fail
  obtain ⟨w10, hr10, hown10, hg10⟩ := World.ownsMap.update (R := pairElem) (D := arN 10) (n := 10) hown9 law37 Tryd.underlying75 (by decide) (key37 10 (by decide)) (pairElem_mk 0 8)
  rw [hr10]
  have hown10 : w10.ownsMap Tryd.prog 37 pairElem (w.heap.size + 1) 11 (arN 11) := hown10
  have K10 : Blk w10 w.heap.size #[.int .i64 2, .int .i64 8] 73 := grown_keeps hg10 K9 (by simp)
  have B10 := Lib.hid (B9.out.grown hg10 (B9.out.size) (fun j hj => by cases hj; omega))
  clear c0 c1 hr10 hg10 hown9 K9 B9
  have c0 := K10.cell 0
  have c1 := K10.cell 1
  simp at c0 c1
  go_wp2_with fail
  go_ret
  exact ⟨_, rfl, hown10, B10.out⟩
end Go.Proofs.YtfkmolbcgnkfdaaDoor

/- Rows of signs, as the program has them. -/
namespace Go.Proofs.YtfkmolbcgnkfdaaDoor
open Go.RowKit
attribute [local go_sem] Oper.semAt_some
set_option maxRecDepth 100000
set_option maxHeartbeats 1000000

theorem drop_nil {α : Type} {p : α → Bool} : ∀ l : List α, l.dropWhile p = [] ↔ l.all p = true
  | [] => by simp
  | x :: l => by
    rw [List.dropWhile_cons, List.all_cons]
    cases h : p x
    · simp
    · simp only [if_true, Bool.true_and]
      exact drop_nil l
theorem signs (c : UInt8) : ([48, 49, 45] : List UInt8).contains c = signB c := by
  unfold signB
  simp [List.contains, List.elem]
  cases h1 : (c == 48) <;> cases h2 : (c == 49) <;> cases h3 : (c == 45) <;> rfl
theorem trim_nil (l : List UInt8) : Lib.trimS l [48, 49, 45] = [] ↔ l.all signB = true := by
  unfold Lib.trimS Lib.trimLeftS Lib.trimRightS
  have hp : (fun c => ([48, 49, 45] : List UInt8).contains c) = signB := funext signs
  rw [hp, drop_nil]
  constructor
  · intro h
    rw [List.all_eq_true] at h
    by_cases hn : l.reverse.dropWhile signB = []
    · rw [drop_nil, List.all_reverse] at hn
      exact hn
    · exfalso
      obtain ⟨x, r, hx⟩ := List.exists_cons_of_ne_nil hn
      have h1 : signB x = false := by
        have := List.head?_dropWhile_not signB l.reverse
        rw [hx] at this
        simpa using this
      have := h x (by rw [hx]; simp)
      rw [h1] at this
      cases this
  · intro h
    rw [List.all_eq_true] at h ⊢
    intro x hx
    rw [List.mem_reverse] at hx
    have := (List.dropWhile_sublist (l := l.reverse) signB).subset hx
    exact h x (by simpa using this)
theorem isrow_any (s : ByteArray) (n : Nat) (w : World) (hs : s.size ≤ 100000) : Calls Tryd.prog 67 #[.string s, .int .i64 (n : Int)] w fun e w' => e = .returned (.bool (rowB n s)) ∧ Below w.heap.size w w' := by
  by_cases hn : s.size = n
  · have hr : rowB n s = s.data.toList.all signB := by unfold rowB; rw [decide_eq_true hn, Bool.true_and]
    obtain ⟨q, hq⟩ : ∃ q, s.data.toList.all signB = q := ⟨_, rfl⟩
    have hn' : ((s.size : Int) == (n : Int)) = true := by rw [hn]; simp
    rw [hr, hq]
    have HQ := Lib.hid hq
    have HT := Lib.hid (Tryd.strings_Trim_set s ⟨#[48, 49, 45]⟩ w (by omega) (by decide) (ascii_of_all (by decide)))
    clear hr hq hn
    go_enter Tryd.func67, Tryd.ntmps67
    go_wp2_with fail
    refine HT.out.mono ?_
    rintro e w1 ⟨rfl, b1⟩
    have B1 := Lib.hid b1
    obtain ⟨r, hr⟩ : ∃ r : ByteArray, (⟨(Lib.trimS s.data.toList [48, 49, 45]).toArray⟩ : ByteArray) = r := ⟨_, rfl⟩
    have he : r.toList.isEmpty = q := by
      rw [← hr, ByteArray.toList_eq, ← HQ.out, Bool.eq_iff_iff, List.isEmpty_iff]
      simpa using trim_nil s.data.toList
    have he2 : (r.toList == (⟨#[]⟩ : ByteArray).toList) = q := by
      rw [← he, ByteArray.toList_eq, ByteArray.toList_eq]
      cases r.data.toList <;> rfl
    rw [hr]
    clear b1 hr HQ HT
    cases q
    · have he3 : ¬ r.toList = [] := by intro h; rw [h] at he; cases he
      go_wp2
      go_ret
      exact ⟨rfl, B1.out⟩
    · have he3 : r.toList = [] := List.isEmpty_iff.1 he
      go_wp2
      go_ret
      exact ⟨rfl, B1.out⟩
  · have hr : rowB n s = false := by unfold rowB; rw [decide_eq_false hn, Bool.false_and]
    have hn' : ((s.size : Int) == (n : Int)) = false := by rw [beq_eq_false_iff_ne]; omega
    rw [hr]
    clear hr hn
    go_enter Tryd.func67, Tryd.ntmps67
    go_wp2
    go_ret
    exact ⟨rfl, Below.refl _ _⟩
/-- the closure that tells which rows are none -/
theorem norow_any (s : ByteArray) (B : Nat) (x1 x2 x4 x5 : Value) (p : Option Addr) (n q : Nat) (w : World) (h : Blk w B #[x1, x2, .slice p n q, x4, x5] 39) (hs : s.size ≤ 100000) :
    Calls Tryd.prog 66 #[.string s, .pointer (some ⟨B, 0, none⟩)] w fun e w' => e = .returned (.bool (!rowB n s)) ∧ Below w.heap.size w w' := by
  have c2 : w.cell? ⟨B, 2, none⟩ = some (.slice p n q) := h.cell 2
  obtain ⟨b, hb⟩ : ∃ b, rowB n s = b := ⟨_, rfl⟩
  have HR := Lib.hid (isrow_any s n w hs)
  rw [hb] at HR ⊢
  clear hb h
  go_enter Tryd.func66, Tryd.ntmps66
  go_wp2_with fail
  refine HR.out.mono ?_
  rintro e w1 ⟨rfl, b1⟩
  have B1 := Lib.hid b1
  clear b1 c2 HR
  cases b
  · go_wp2
    go_ret
    exact ⟨rfl, B1.out⟩
  · go_wp2
    go_ret
    exact ⟨rfl, B1.out⟩
/-- is one of the rows none -/
theorem find_any (l : List ByteArray) (v : Value) (B : Nat) (x1 x2 x4 x5 : Value) (p : Option Addr) (n q : Nat) (w : World) (h : Blk w B #[x1, x2, .slice p n q, x4, x5] 39) (hl : l.length ≤ 100000) (hs : ∀ s ∈ l, s.size ≤ 100000) (ht : Lst stc w v l) :
    Calls Tryd.prog 80 #[v, .func (.func 66) #[] #[.pointer (some ⟨B, 0, none⟩)]] w fun e w' => ∃ i : Int, e = .returned (.int .i64 i) ∧ (0 ≤ i ↔ l.all (rowB n) = false) ∧ -1 ≤ i ∧ Below w.heap.size w w' := by
  have HT := Lib.hid ht
  have HK := Lib.hid h
  have HS := Lib.hid hs
  obtain ⟨b, c, rfl⟩ := ht.slice
  clear ht h hs
  obtain ⟨r, hr⟩ : ∃ r, l.all (rowB n) = r := ⟨_, rfl⟩
  rw [hr]
  have HR := Lib.hid hr
  clear hr
  go_enter Tryd.func80, Tryd.ntmps80
  go_wp2
  go_loopw [8] (fun i wr => ∃ k : Nat, k ≤ l.length ∧ i = .int .i64 (k : Int) ∧ Hid (∀ y ∈ l.take k, rowB n y = true) ∧ Below w.heap.size w wr) (fun i _ => l.length - (intOf i).toNat)
  case atStart => exact ⟨0, by omega, rfl, Lib.hid (by simp), Below.refl _ _⟩
  case round =>
    obtain ⟨k, hk, rfl, hall, hB⟩ := hrel
    have B0 := Lib.hid hB
    have T0 := Lib.hid (HT.out.below hB)
    have K0 := Lib.hid (HK.out.below hB HK.out.lt)
    clear hB
    by_cases hlt : k < l.length
    · have hlt' : (k : Int) < (l.length : Int) := by omega
      obtain ⟨g, o, cc, x, hx, hv, hg, hc⟩ := T0.out.at_ stc_len hlt
      injection hv with hb _ hcc
      subst hb hcc
      have c0 := hc 0 (by omega)
      simp [stc] at c0
      have HX := Lib.hid hx
      clear hc hx
      obtain ⟨d, hd⟩ : ∃ d, rowB n x = d := ⟨_, rfl⟩
      have HN := Lib.hid (norow_any x B x1 x2 x4 x5 p n q wr K0.out (HS.out x (List.mem_of_getElem? HX.out)))
      rw [hd] at HN
      have HD := Lib.hid hd
      clear hd
      go_wp2_with fail
      refine HN.out.mono ?_
      rintro e w1 ⟨rfl, b1⟩
      have B1 := Lib.hid (B0.out.trans (b1.mono B0.out.size))
      clear b1 HN
      cases d
      · obtain rfl : r = false := by
          rw [← HR.out]
          exact List.all_eq_false.2 ⟨x, List.mem_of_getElem? HX.out, by rw [HD.out]; simp⟩
        clear hall HD HR
        go_wp2
        go_ret
        exact ⟨_, rfl, by simp, by omega, B1.out⟩
      · have HN := Lib.hid (take_next hall.out HX.out HD.out)
        clear hall HD
        go_wp2
        refine ⟨⟨k + 1, by omega, by go_num, HN, B1.out⟩, ?_⟩
        simp [intOf]; omega
    · have hge : (l.length : Int) ≤ (k : Int) := by omega
      obtain rfl : r = true := by
        rw [← HR.out, List.all_eq_true]
        exact take_whole hall.out (by omega)
      clear hall HR
      go_wp2
      go_ret
      exact ⟨-1, rfl, by simp, by omega, B0.out⟩
theorem cont_any (l : List ByteArray) (v : Value) (B : Nat) (x1 x2 x4 x5 : Value) (p : Option Addr) (n q : Nat) (r : Bool) (w : World) (h : Blk w B #[x1, x2, .slice p n q, x4, x5] 39) (hl : l.length ≤ 100000) (hs : ∀ s ∈ l, s.size ≤ 100000) (ht : Lst stc w v l) (hr : l.all (rowB n) = r) :
    Calls Tryd.prog 65 #[v, .func (.func 66) #[] #[.pointer (some ⟨B, 0, none⟩)]] w fun e w' => e = .returned (.bool (!r)) ∧ Below w.heap.size w w' := by
  have HF := Lib.hid (find_any l v B x1 x2 x4 x5 p n q w h hl hs ht)
  obtain ⟨b, c, rfl⟩ := ht.slice
  rw [hr] at HF
  clear h hl hs ht hr
  go_enter Tryd.func65, Tryd.ntmps65
  go_wp2_with fail
  refine HF.out.mono ?_
  rintro e w1 ⟨i, rfl, hi, hi2, b1⟩
  have B1 := Lib.hid b1
  clear b1 HF
  cases r
  · have h0 : (0 : Int) ≤ i := hi.2 rfl
    clear hi
    go_wp2
    go_ret
    exact ⟨rfl, B1.out⟩
  · have h0 : ¬ (0 : Int) ≤ i := fun h => by cases hi.1 h
    have h0' : decide ((0 : Int) ≤ i) = false := decide_eq_false h0
    clear hi
    go_wp2
    go_ret
    exact ⟨rfl, B1.out⟩
end Go.Proofs.YtfkmolbcgnkfdaaDoor

/- May a gate be, as the document has it. -/
namespace Go.Proofs.YtfkmolbcgnkfdaaDoor
open Go.RowKit
attribute [local go_sem] Oper.semAt_some
set_option maxRecDepth 100000
set_option maxHeartbeats 1000000

theorem rgate_any (g : Gt) (vi vr : Value) (w : World) (hi : Inn w vi g.ins) (hr : Inn w vr g.rows) (l1 : g.ins.length ≤ 100000) (l2 : g.rows.length ≤ 100000) (hz : ∀ s ∈ g.rows, s.size ≤ 100000) :
    Calls Tryd.prog 54 #[.agg #[.string g.name, .int .i64 g.op, vi, vr, .bool g.off]] w fun e w' => e = .returned (.bool (gateB g)) ∧ Below w.heap.size w w' := by
  have HI := Lib.hid hi
  have HR := Lib.hid hr
  have HZ := Lib.hid hz
  obtain ⟨pi, qi, rfl⟩ := hi.lst.slice
  obtain ⟨pr, qr, rfl⟩ := hr.lst.slice
  clear hi hr hz
  obtain ⟨q, hq⟩ : ∃ q, gateB g = q := ⟨_, rfl⟩
  rw [hq]
  have HQ := Lib.hid hq
  clear hq
  have BT := Lib.hid (chain2 (Below.refl w.heap.size w) (below_one w (.cells #[.string g.name, .int .i64 g.op, .slice pi g.ins.length qi, .slice pr g.rows.length qr, .bool g.off] 39)))
  by_cases h10 : g.op = 10
  · have o10 : (g.op == 10) = true := by rw [h10]; rfl
    have T1 := Lib.hid ((Blk.new w #[.string g.name, .int .i64 g.op, .slice pi g.ins.length qi, .slice pr g.rows.length qr, .bool g.off] 39))
    have R1 := Lib.hid (HR.out.lst.below (below_one w (.cells #[.string g.name, .int .i64 g.op, .slice pi g.ins.length qi, .slice pr g.rows.length qr, .bool g.off] 39)))
    have H10 := Lib.hid h10
    clear h10
    go_enter Tryd.func54, Tryd.ntmps54
    go_wp2
    generalize w.alloc (.cells #[.string g.name, .int .i64 g.op, .slice pi g.ins.length qi, .slice pr g.rows.length qr, .bool g.off] 39) = w1 at *
    clear o10
    go_loop [4] (fun i => ∃ k : Nat, k ≤ g.rows.length ∧ k ≤ 129 ∧ i = .int .i64 (k : Int) ∧ Hid (∀ y ∈ g.rows.take k, rowB g.ins.length y = true)) (fun i => g.rows.length - (intOf i).toNat)
    case atStart => exact ⟨0, by omega, by omega, rfl, Lib.hid (by simp)⟩
    case round =>
      obtain ⟨k, hk, hk2, rfl, hall⟩ := hrel
      by_cases hlt : k < g.rows.length
      · have hlt' : (k : Int) < (g.rows.length : Int) := by omega
        by_cases h128 : (k : Int) ≤ 128
        · obtain ⟨eg, eo, cc, x, hx, hv, hg, hc⟩ := R1.out.at_ stc_len hlt
          injection hv with e1 e2 e3
          subst e1 e3
          clear e2
          have c0 := hc 0 (by omega)
          simp [stc] at c0
          have HX := Lib.hid hx
          clear hc hx
          have t0 : w1.cell? ⟨w.heap.size, 0, none⟩ = some (.string g.name) := T1.out.cell 0
          have t1 : w1.cell? ⟨w.heap.size, 1, none⟩ = some (.int .i64 g.op) := T1.out.cell 1
          have t2 : w1.cell? ⟨w.heap.size, 2, none⟩ = some (.slice pi g.ins.length qi) := T1.out.cell 2
          have t3 : w1.cell? ⟨w.heap.size, 3, none⟩ = some (.slice (some ⟨eg, eo, none⟩) g.rows.length qr) := T1.out.cell 3
          have t4 : w1.cell? ⟨w.heap.size, 4, none⟩ = some (.bool g.off) := T1.out.cell 4
          obtain ⟨d, hd⟩ : ∃ d, rowB g.ins.length x = d := ⟨_, rfl⟩
          have HN := Lib.hid (row_any x g.ins.length w1 (HZ.out x (List.mem_of_getElem? HX.out)))
          rw [hd] at HN
          have HD := Lib.hid hd
          clear hd
          go_wp2_with fail
          refine HN.out.mono ?_
          rintro e w' ⟨rfl, rfl⟩
          clear HN
          cases d
          · obtain rfl : q = false := by
              rw [← HQ.out]
              unfold gateB
              rw [if_pos H10.out, show g.rows.all (rowB g.ins.length) = false from List.all_eq_false.2 ⟨x, List.mem_of_getElem? HX.out, by rw [HD.out]; simp⟩]
              simp
            clear HQ
            clear hall HD
            go_wp2
            go_ret
            exact ⟨rfl, BT.out⟩
          · have HN := Lib.hid (take_next hall.out HX.out HD.out)
            clear hall HD
            go_wp2
            refine ⟨⟨k + 1, by omega, by omega, by go_num, HN⟩, ?_⟩
            simp [intOf]; omega
        · have h128' : decide ((k : Int) ≤ 128) = false := decide_eq_false h128
          obtain rfl : q = false := by
            rw [← HQ.out]
            unfold gateB
            rw [if_pos H10.out, decide_eq_false (show ¬ g.rows.length ≤ 128 by omega)]
            simp
          clear HQ
          clear hall
          have f128 : decide ((g.rows.length : Int) ≤ 128) = false := decide_eq_false (by omega)
          have t0 : w1.cell? ⟨w.heap.size, 0, none⟩ = some (.string g.name) := T1.out.cell 0
          have t1 : w1.cell? ⟨w.heap.size, 1, none⟩ = some (.int .i64 g.op) := T1.out.cell 1
          have t2 : w1.cell? ⟨w.heap.size, 2, none⟩ = some (.slice pi g.ins.length qi) := T1.out.cell 2
          have t3 : w1.cell? ⟨w.heap.size, 3, none⟩ = some (.slice pr g.rows.length qr) := T1.out.cell 3
          have t4 : w1.cell? ⟨w.heap.size, 4, none⟩ = some (.bool g.off) := T1.out.cell 4
          by_cases h8 : (g.ins.length : Int) ≤ 8
          · go_wp2
            go_ret
            exact ⟨rfl, BT.out⟩
          · have h8' : decide ((g.ins.length : Int) ≤ 8) = false := decide_eq_false h8
            go_wp2
            go_ret
            exact ⟨rfl, BT.out⟩
      · have hge : (g.rows.length : Int) ≤ (k : Int) := by omega
        have hge' : decide ((k : Int) < (g.rows.length : Int)) = false := decide_eq_false (by omega)
        have ha : g.rows.all (rowB g.ins.length) = true := List.all_eq_true.2 (take_whole hall.out (by omega))
        have HA := Lib.hid ha
        clear ha hall
        have t0 : w1.cell? ⟨w.heap.size, 0, none⟩ = some (.string g.name) := T1.out.cell 0
        have t1 : w1.cell? ⟨w.heap.size, 1, none⟩ = some (.int .i64 g.op) := T1.out.cell 1
        have t2 : w1.cell? ⟨w.heap.size, 2, none⟩ = some (.slice pi g.ins.length qi) := T1.out.cell 2
        have t3 : w1.cell? ⟨w.heap.size, 3, none⟩ = some (.slice pr g.rows.length qr) := T1.out.cell 3
        have t4 : w1.cell? ⟨w.heap.size, 4, none⟩ = some (.bool g.off) := T1.out.cell 4
        by_cases h8 : (g.ins.length : Int) ≤ 8
        · by_cases h128 : (g.rows.length : Int) ≤ 128
          · obtain rfl : q = true := by
              rw [← HQ.out]
              unfold gateB
              rw [if_pos H10.out, HA.out, decide_eq_true (show g.ins.length ≤ 8 by omega), decide_eq_true (show g.rows.length ≤ 128 by omega)]
              rfl
            clear HQ
            clear HA
            go_wp2
            go_ret
            exact ⟨rfl, BT.out⟩
          · have h128' : decide ((g.rows.length : Int) ≤ 128) = false := decide_eq_false h128
            obtain rfl : q = false := by
              rw [← HQ.out]
              unfold gateB
              rw [if_pos H10.out, decide_eq_false (show ¬ g.rows.length ≤ 128 by omega)]
              simp
            clear HQ
            clear HA
            go_wp2
            go_ret
            exact ⟨rfl, BT.out⟩
        · have h8' : decide ((g.ins.length : Int) ≤ 8) = false := decide_eq_false h8
          obtain rfl : q = false := by
            rw [← HQ.out]
            unfold gateB
            rw [if_pos H10.out, decide_eq_false (show ¬ g.ins.length ≤ 8 by omega)]
            simp
          clear HQ
          clear HA
          go_wp2
          go_ret
          exact ⟨rfl, BT.out⟩
  · have o10 : (g.op == 10) = false := by rw [beq_eq_false_iff_ne]; exact h10
    by_cases hr0 : (0 : Int) < (g.rows.length : Int)
    · obtain rfl : q = false := by
        rw [← HQ.out]
        unfold gateB
        rw [if_neg h10, show g.rows.isEmpty = false from by rw [Bool.eq_false_iff]; intro h; rw [List.isEmpty_iff] at h; rw [h] at hr0; simp at hr0]
        rfl
      clear HQ
      have hrn : ¬ g.rows = [] := by intro h; rw [h] at hr0; simp at hr0
      clear h10
      clear BT
      go_enter Tryd.func54, Tryd.ntmps54
      go_wp2
      go_ret
      exact ⟨rfl, below_one _ _⟩
    · have hr0' : decide ((0 : Int) < (g.rows.length : Int)) = false := decide_eq_false hr0
      have hrz : g.rows = [] := List.eq_nil_of_length_eq_zero (by omega)
      have hre : g.rows.isEmpty = true := by rw [List.isEmpty_iff]; exact hrz
      obtain ⟨of, hof⟩ : ∃ of, g.off = of := ⟨_, rfl⟩
      cases of
      · by_cases o0 : g.op = 0 ∨ g.op = 1
        · by_cases n0 : g.ins.length = 0
          · have m0 : ((g.ins.length : Int) == 0) = true := by rw [n0]; rfl
            obtain rfl : q = true := by
              rw [← HQ.out]
              unfold gateB
              rw [if_neg h10, hre, hof, if_pos o0, decide_eq_true n0]
              rfl
            clear HQ
            rcases o0 with o0 | o0
            · have p0 : (g.op == 0) = true := by rw [o0]; rfl
              have p1 : (g.op == 1) = false := by rw [o0]; rfl
              clear h10 o0 hre n0
              clear BT
              go_enter Tryd.func54, Tryd.ntmps54
              go_wp2
              go_ret
              exact ⟨rfl, below_one _ _⟩
            · have p0 : (g.op == 0) = false := by rw [o0]; rfl
              have p1 : (g.op == 1) = true := by rw [o0]; rfl
              clear h10 o0 hre n0
              clear BT
              go_enter Tryd.func54, Tryd.ntmps54
              go_wp2
              go_ret
              exact ⟨rfl, below_one _ _⟩
          · have m0 : ((g.ins.length : Int) == 0) = false := by rw [beq_eq_false_iff_ne]; omega
            obtain rfl : q = false := by
              rw [← HQ.out]
              unfold gateB
              rw [if_neg h10, hre, hof, if_pos o0, decide_eq_false n0]
              rfl
            clear HQ
            rcases o0 with o0 | o0
            · have p0 : (g.op == 0) = true := by rw [o0]; rfl
              have p1 : (g.op == 1) = false := by rw [o0]; rfl
              clear h10 o0 hre n0
              clear BT
              go_enter Tryd.func54, Tryd.ntmps54
              go_wp2
              go_ret
              exact ⟨rfl, below_one _ _⟩
            · have p0 : (g.op == 0) = false := by rw [o0]; rfl
              have p1 : (g.op == 1) = true := by rw [o0]; rfl
              clear h10 o0 hre n0
              clear BT
              go_enter Tryd.func54, Tryd.ntmps54
              go_wp2
              go_ret
              exact ⟨rfl, below_one _ _⟩
        · have p0 : (g.op == 0) = false := by rw [beq_eq_false_iff_ne]; exact fun h => o0 (.inl h)
          have p1 : (g.op == 1) = false := by rw [beq_eq_false_iff_ne]; exact fun h => o0 (.inr h)
          by_cases o2 : g.op = 2 ∨ g.op = 3
          · by_cases n0 : g.ins.length = 1
            · have m0 : ((g.ins.length : Int) == 1) = true := by rw [n0]; rfl
              obtain rfl : q = true := by
                rw [← HQ.out]
                unfold gateB
                rw [if_neg h10, hre, hof, if_neg o0, if_pos o2, decide_eq_true n0]
                rfl
              clear HQ
              rcases o2 with o2 | o2
              · have p2 : (g.op == 2) = true := by rw [o2]; rfl
                have p3 : (g.op == 3) = false := by rw [o2]; rfl
                clear h10 o0 o2 hre n0
                clear BT
                go_enter Tryd.func54, Tryd.ntmps54
                go_wp2
                go_ret
                exact ⟨rfl, below_one _ _⟩
              · have p2 : (g.op == 2) = false := by rw [o2]; rfl
                have p3 : (g.op == 3) = true := by rw [o2]; rfl
                clear h10 o0 o2 hre n0
                clear BT
                go_enter Tryd.func54, Tryd.ntmps54
                go_wp2
                go_ret
                exact ⟨rfl, below_one _ _⟩
            · have m0 : ((g.ins.length : Int) == 1) = false := by rw [beq_eq_false_iff_ne]; omega
              obtain rfl : q = false := by
                rw [← HQ.out]
                unfold gateB
                rw [if_neg h10, hre, hof, if_neg o0, if_pos o2, decide_eq_false n0]
                rfl
              clear HQ
              rcases o2 with o2 | o2
              · have p2 : (g.op == 2) = true := by rw [o2]; rfl
                have p3 : (g.op == 3) = false := by rw [o2]; rfl
                clear h10 o0 o2 hre n0
                clear BT
                go_enter Tryd.func54, Tryd.ntmps54
                go_wp2
                go_ret
                exact ⟨rfl, below_one _ _⟩
              · have p2 : (g.op == 2) = false := by rw [o2]; rfl
                have p3 : (g.op == 3) = true := by rw [o2]; rfl
                clear h10 o0 o2 hre n0
                clear BT
                go_enter Tryd.func54, Tryd.ntmps54
                go_wp2
                go_ret
                exact ⟨rfl, below_one _ _⟩
          · have p2 : (g.op == 2) = false := by rw [beq_eq_false_iff_ne]; exact fun h => o2 (.inl h)
            have p3 : (g.op == 3) = false := by rw [beq_eq_false_iff_ne]; exact fun h => o2 (.inr h)
            have hv : gateB g = (decide (4 ≤ g.op ∧ g.op ≤ 9) && decide (2 ≤ g.ins.length ∧ g.ins.length ≤ 8)) := by
              unfold gateB
              rw [if_neg h10, hre, hof, if_neg o0, if_neg o2]
              rfl
            rw [HQ.out] at hv
            clear HQ h10 o0 o2 hre
            by_cases k0 : (4 : Int) ≤ g.op
            · by_cases k1 : g.op ≤ (9 : Int)
              · by_cases k2 : (2 : Int) ≤ (g.ins.length : Int)
                · by_cases k3 : (g.ins.length : Int) ≤ 8
                  · obtain rfl : q = true := by rw [hv, decide_eq_true (show 4 ≤ g.op ∧ g.op ≤ 9 by omega), decide_eq_true (show 2 ≤ g.ins.length ∧ g.ins.length ≤ 8 by omega)]; rfl
                    clear hv
                    clear BT
                    go_enter Tryd.func54, Tryd.ntmps54
                    go_wp2
                    go_ret
                    exact ⟨rfl, below_one _ _⟩
                  · have k3' : decide ((g.ins.length : Int) ≤ 8) = false := decide_eq_false k3
                    obtain rfl : q = false := by rw [hv, decide_eq_false (show ¬ (2 ≤ g.ins.length ∧ g.ins.length ≤ 8) by omega), Bool.and_false]
                    clear hv
                    clear BT
                    go_enter Tryd.func54, Tryd.ntmps54
                    go_wp2
                    go_ret
                    exact ⟨rfl, below_one _ _⟩
                · have k2' : decide ((2 : Int) ≤ (g.ins.length : Int)) = false := decide_eq_false k2
                  obtain rfl : q = false := by rw [hv, decide_eq_false (show ¬ (2 ≤ g.ins.length ∧ g.ins.length ≤ 8) by omega), Bool.and_false]
                  clear hv
                  clear BT
                  go_enter Tryd.func54, Tryd.ntmps54
                  go_wp2
                  go_ret
                  exact ⟨rfl, below_one _ _⟩
              · have k1' : decide (g.op ≤ (9 : Int)) = false := decide_eq_false k1
                obtain rfl : q = false := by rw [hv, decide_eq_false (show ¬ (4 ≤ g.op ∧ g.op ≤ 9) by omega)]; rfl
                clear hv
                clear BT
                go_enter Tryd.func54, Tryd.ntmps54
                go_wp2
                go_ret
                exact ⟨rfl, below_one _ _⟩
            · have k0' : decide ((4 : Int) ≤ g.op) = false := decide_eq_false k0
              obtain rfl : q = false := by rw [hv, decide_eq_false (show ¬ (4 ≤ g.op ∧ g.op ≤ 9) by omega)]; rfl
              clear hv
              clear BT
              go_enter Tryd.func54, Tryd.ntmps54
              go_wp2
              go_ret
              exact ⟨rfl, below_one _ _⟩
      · obtain rfl : q = false := by
          rw [← HQ.out]
          unfold gateB
          rw [if_neg h10, hre, hof]
          rfl
        clear HQ
        clear h10 hre
        clear BT
        go_enter Tryd.func54, Tryd.ntmps54
        go_wp2
        go_ret
        exact ⟨rfl, below_one _ _⟩
end Go.Proofs.YtfkmolbcgnkfdaaDoor

/- May a gate be. -/
namespace Go.Proofs.YtfkmolbcgnkfdaaDoor
open Go.RowKit Go.Maps
attribute [local go_sem] Oper.semAt_some
set_option maxRecDepth 100000
set_option maxHeartbeats 2000000

def inOp (o : Int) : Bool := decide (0 ≤ o ∧ o ≤ 10)
def loZ (o : Int) : Int := if o = 2 ∨ o = 3 then 1 else if 4 ≤ o ∧ o ≤ 9 then 2 else 0
def hiZ (o : Int) : Int := if o = 2 ∨ o = 3 then 1 else if 4 ≤ o ∧ o ≤ 10 then 8 else 0
theorem arN_out (o : Int) (z : DataW Unit) : ∀ k : Nat, ¬ (0 ≤ o ∧ o < k) → (arN k).atKey (.int .i64 o) z = z
  | 0, _ => rfl
  | k + 1, h => by
    rw [arN, atKey_put_other (lit_ne (by omega))]
    exact arN_out o z k (by omega)
theorem arity_look {W : World} {mb : Nat} (h : W.ownsMap Tryd.prog 37 pairElem mb 11 (arN 11)) (o : Int) (hw : (Lit.int .i64 o).wf = true) :
    (Instr.lookup 75 (.map (some mb)) (.int .i64 o) true).run Tryd.prog W = .ok (.tuple #[.agg #[.int .i64 (loZ o), .int .i64 (hiZ o)], .bool (inOp o)]) W := by
  obtain ⟨v, ps, hrun, hv⟩ := h.look_ok law37 Tryd.underlying75 (zero73 W) (pairElem_mk 0 0) (key37 o hw)
  rw [hrun, arN_has]
  have hin : decide (0 ≤ o ∧ o < ((11 : Nat) : Int)) = inOp o := by
    unfold inOp
    by_cases h : 0 ≤ o ∧ o ≤ 10
    · rw [decide_eq_true h, decide_eq_true (by omega)]
    · rw [decide_eq_false h, decide_eq_false (by omega)]
  rw [hin]
  have hval : v = .agg #[.int .i64 (loZ o), .int .i64 (hiZ o)] := by
    obtain ⟨a, b, rfl, hz⟩ := pairElem_inv hv
    by_cases h : 0 ≤ o ∧ o ≤ 10
    · obtain ⟨n, rfl⟩ : ∃ n : Nat, o = n := ⟨o.toNat, by omega⟩
      have hn : n ≤ 10 := by omega
      rw [arN_at n _ 11 (by omega)] at hz
      have e : a = loA n ∧ b = hiA n := by
        have := congrArg Prod.fst hz
        simp only [DataW.agg.injEq, List.cons.injEq, DataW.lit.injEq, Lit.int.injEq, and_true, true_and] at this
        exact ⟨this.1.symm, this.2.symm⟩
      rw [e.1, e.2]
      clear hz hrun hv hin e h hw
      match n, hn with
      | 0, _ => rfl
      | 1, _ => rfl
      | 2, _ => rfl
      | 3, _ => rfl
      | 4, _ => rfl
      | 5, _ => rfl
      | 6, _ => rfl
      | 7, _ => rfl
      | 8, _ => rfl
      | 9, _ => rfl
      | 10, _ => rfl
    · rw [arN_out o _ 11 (by omega)] at hz
      have e : a = 0 ∧ b = 0 := by
        have := congrArg Prod.fst hz
        simp only [DataW.agg.injEq, List.cons.injEq, DataW.lit.injEq, Lit.int.injEq, and_true, true_and] at this
        exact ⟨this.1.symm, this.2.symm⟩
      rw [e.1, e.2]
      have h1 : loZ o = 0 := by unfold loZ; rw [if_neg (by omega), if_neg (by omega)]
      have h2 : hiZ o = 0 := by unfold hiZ; rw [if_neg (by omega), if_neg (by omega)]
      rw [h1, h2]
  rw [hval]
/-- what a gate's op, and how many Ins it has, say -/
theorem gate_out {g : Gt} (h : inOp g.op = false) : gateB g = false := by
  have h1 : ¬ (0 ≤ g.op ∧ g.op ≤ 10) := of_decide_eq_false h
  unfold gateB
  rw [if_neg (by omega), if_neg (by omega), if_neg (by omega), decide_eq_false (show ¬ (4 ≤ g.op ∧ g.op ≤ 9) by omega)]
  simp
theorem gate_cover {g : Gt} (h : g.op = 10) : gateB g = (decide (g.ins.length ≤ 8) && (decide (g.rows.length ≤ 128) && g.rows.all (rowB g.ins.length))) := by
  unfold gateB
  rw [if_pos h]
theorem gate_other {g : Gt} (h : inOp g.op = true) (h10 : ¬ g.op = 10) : gateB g = ((decide (loZ g.op ≤ (g.ins.length : Int)) && decide ((g.ins.length : Int) ≤ hiZ g.op)) && (g.rows.isEmpty && !g.off)) := by
  have h1 : 0 ≤ g.op ∧ g.op ≤ 10 := of_decide_eq_true h
  have key : (if g.op = 0 ∨ g.op = 1 then decide (g.ins.length = 0) else if g.op = 2 ∨ g.op = 3 then decide (g.ins.length = 1) else decide (4 ≤ g.op ∧ g.op ≤ 9) && decide (2 ≤ g.ins.length ∧ g.ins.length ≤ 8)) = (decide (loZ g.op ≤ (g.ins.length : Int)) && decide ((g.ins.length : Int) ≤ hiZ g.op)) := by
    by_cases a : g.op = 0 ∨ g.op = 1
    · have h1 : loZ g.op = 0 := by unfold loZ; rw [if_neg (by omega), if_neg (by omega)]
      have h2 : hiZ g.op = 0 := by unfold hiZ; rw [if_neg (by omega), if_neg (by omega)]
      rw [if_pos a, h1, h2, decide_eq_true (show (0 : Int) ≤ (g.ins.length : Int) by omega), Bool.true_and]
      by_cases n : g.ins.length = 0
      · rw [decide_eq_true n, decide_eq_true (by omega)]
      · rw [decide_eq_false n, decide_eq_false (by omega)]
    · rw [if_neg a]
      by_cases b : g.op = 2 ∨ g.op = 3
      · have h1 : loZ g.op = 1 := by unfold loZ; rw [if_pos b]
        have h2 : hiZ g.op = 1 := by unfold hiZ; rw [if_pos b]
        rw [if_pos b, h1, h2]
        by_cases n : g.ins.length = 1
        · rw [decide_eq_true n, decide_eq_true (show (1 : Int) ≤ (g.ins.length : Int) by omega), decide_eq_true (show (g.ins.length : Int) ≤ 1 by omega)]; rfl
        · rw [decide_eq_false n]
          by_cases m : (1 : Int) ≤ (g.ins.length : Int)
          · rw [decide_eq_false (show ¬ (g.ins.length : Int) ≤ 1 by omega), Bool.and_false]
          · rw [decide_eq_false m, Bool.false_and]
      · have h1 : loZ g.op = 2 := by unfold loZ; rw [if_neg b, if_pos (by omega)]
        have h2 : hiZ g.op = 8 := by unfold hiZ; rw [if_neg b, if_pos (by omega)]
        rw [if_neg b, h1, h2, decide_eq_true (show 4 ≤ g.op ∧ g.op ≤ 9 by omega), Bool.true_and]
        by_cases m : (2 : Int) ≤ (g.ins.length : Int)
        · by_cases k : (g.ins.length : Int) ≤ 8
          · rw [decide_eq_true m, decide_eq_true k, decide_eq_true (by omega)]; rfl
          · rw [decide_eq_false k, Bool.and_false, decide_eq_false (by omega)]
        · rw [decide_eq_false m, Bool.false_and, decide_eq_false (by omega)]
  unfold gateB
  rw [if_neg h10, key]
  cases g.rows.isEmpty <;> cases g.off <;> simp
theorem own_below {P : Program} {W W' : World} {k : TypeId} {el : Value → Option (DataW Unit × List MemPlace)} {b n : Nat} {D : DataW Unit} (h : W.ownsMap P k el b n D) (hb : Below W.heap.size W W') : W'.ownsMap P k el b n D :=
  h.kept (below_grown hb) (by simp)

theorem gate_any (g : Gt) (vi vr : Value) (w : World) (hi : Inn w vi g.ins) (hr : Inn w vr g.rows) (l1 : g.ins.length ≤ 100000) (l2 : g.rows.length ≤ 100000) (hz : ∀ s ∈ g.rows, s.size ≤ 100000) (hw : (Lit.int .i64 g.op).wf = true) :
    Calls Tryd.prog 27 #[.agg #[.string g.name, .int .i64 g.op, vi, vr, .bool g.off]] w fun e w' => e = .returned (.bool (gateB g)) ∧ Below w.heap.size w w' := by
  have HI := Lib.hid hi
  have HR := Lib.hid hr
  have HZ := Lib.hid hz
  have HW := Lib.hid hw
  obtain ⟨pi, qi, rfl⟩ := hi.lst.slice
  obtain ⟨pr, qr, rfl⟩ := hr.lst.slice
  clear hi hr hz hw
  obtain ⟨q, hq⟩ : ∃ q, gateB g = q := ⟨_, rfl⟩
  rw [hq]
  have HQ := Lib.hid hq
  clear hq
  obtain ⟨io, hio⟩ : ∃ b, inOp g.op = b := ⟨_, rfl⟩
  obtain ⟨lz, hlz⟩ : ∃ b, loZ g.op = b := ⟨_, rfl⟩
  obtain ⟨hz', hhz⟩ : ∃ b, hiZ g.op = b := ⟨_, rfl⟩
  have IO := Lib.hid hio
  have LZ := Lib.hid hlz
  have HHZ := Lib.hid hhz
  clear hio hlz hhz
  go_enter Tryd.func27, Tryd.ntmps27
  go_wp2_with fail
  have a1 : Below w.heap.size w (w.alloc (.cells #[.string g.name, .int .i64 g.op, .slice pi g.ins.length qi, .slice pr g.rows.length qr, .bool g.off] 39)) := ((Below.refl w.heap.size w).alloc (by first | exact Nat.le_refl _ | (simp only [World.size_alloc]; omega)) (.cells #[.string g.name, .int .i64 g.op, .slice pi g.ins.length qi, .slice pr g.rows.length qr, .bool g.off] 39))
  have T_new0 := (Blk.new w #[.string g.name, .int .i64 g.op, .slice pi g.ins.length qi, .slice pr g.rows.length qr, .bool g.off] 39)
  have KT_00 := Lib.hid T_new0
  clear T_new0
  have R_1 := Lib.hid (HR.out.below a1)
  clear HR
  have B_1 := Lib.hid a1
  clear a1
  generalize (w.alloc (.cells #[.string g.name, .int .i64 g.op, .slice pi g.ins.length qi, .slice pr g.rows.length qr, .bool g.off] 39)) = w1 at R_1 KT_00 B_1 ⊢
  have R_o2 := R_1
  have KT_o2 := KT_00
  have B_o2 := B_1
  have HS2 : Hid (∀ X : World, Below w1.heap.size w1 X → X.cell? ⟨w.heap.size, 0, none⟩ = some (.string g.name) ∧ X.cell? ⟨w.heap.size, 1, none⟩ = some (.int .i64 g.op) ∧ X.cell? ⟨w.heap.size, 2, none⟩ = some (.slice pi g.ins.length qi) ∧ X.cell? ⟨w.heap.size, 3, none⟩ = some (.slice pr g.rows.length qr) ∧ X.cell? ⟨w.heap.size, 4, none⟩ = some (.bool g.off) ∧ Below w1.heap.size w1 X) := Lib.hid fun X h => ⟨(h.cell (p := ⟨w.heap.size, 0, none⟩) KT_00.out.lt).trans (KT_00.out.cell 0), (h.cell (p := ⟨w.heap.size, 1, none⟩) KT_00.out.lt).trans (KT_00.out.cell 1), (h.cell (p := ⟨w.heap.size, 2, none⟩) KT_00.out.lt).trans (KT_00.out.cell 2), (h.cell (p := ⟨w.heap.size, 3, none⟩) KT_00.out.lt).trans (KT_00.out.cell 3), (h.cell (p := ⟨w.heap.size, 4, none⟩) KT_00.out.lt).trans (KT_00.out.cell 4), h⟩
  refine wp_region_held_drew (S := fun X => X.cell? ⟨w.heap.size, 0, none⟩ = some (.string g.name) ∧ X.cell? ⟨w.heap.size, 1, none⟩ = some (.int .i64 g.op) ∧ X.cell? ⟨w.heap.size, 2, none⟩ = some (.slice pi g.ins.length qi) ∧ X.cell? ⟨w.heap.size, 3, none⟩ = some (.slice pr g.rows.length qr) ∧ X.cell? ⟨w.heap.size, 4, none⟩ = some (.bool g.off) ∧ Below w1.heap.size w1 X) (by kernel_rfl) (HS2.out _ (Below.refl _ _).drew) (fun hHeld => ?_)
  have bd : Below w1.heap.size w1 w1.drew := (Below.refl _ _).drew
  have RB0 := Lib.hid bd
  have R_2 := Lib.hid (R_1.out.below bd)
  clear R_1
  have KT_2 := Lib.hid (KT_00.out.below bd KT_00.out.lt)
  clear KT_00
  have B_2 := Lib.hid (B_1.out.trans (bd.mono B_1.out.size))
  clear B_1
  clear bd
  generalize w1.drew = w2 at R_2 RB0 KT_2 B_2 hHeld ⊢
  try (first | (refine take_yes (i := 1) (v := ?_) rfl (by kernel_rfl) (by decide +kernel) (by decide +kernel) (fun _ _ _ h => h) (by rfl) ?_ (by assumption) ?_; rotate_left; intro w hSw; (try dsimp only at hSw); go_simp; with_reducible rfl; simp only [Act.put, List.setIfInBounds_toArray, List.set_cons_zero, List.set_cons_succ]) | (refine take_no (i := 1) rfl (by kernel_rfl) (by decide +kernel) (by decide +kernel) (fun _ _ _ h => h) (by rfl) (by assumption) ?_; simp only [Act.put, List.setIfInBounds_toArray, List.set_cons_zero, List.set_cons_succ]))
  try (first | (refine take_yes (i := 2) (v := ?_) rfl (by kernel_rfl) (by decide +kernel) (by decide +kernel) (fun _ _ _ h => h) (by rfl) ?_ (by assumption) ?_; rotate_left; intro w hSw; (try dsimp only at hSw); go_simp; with_reducible rfl; simp only [Act.put, List.setIfInBounds_toArray, List.set_cons_zero, List.set_cons_succ]) | (refine take_no (i := 2) rfl (by kernel_rfl) (by decide +kernel) (by decide +kernel) (fun _ _ _ h => h) (by rfl) (by assumption) ?_; simp only [Act.put, List.setIfInBounds_toArray, List.set_cons_zero, List.set_cons_succ]))
  try (first | (refine take_yes (i := 3) (v := ?_) rfl (by kernel_rfl) (by decide +kernel) (by decide +kernel) (fun _ _ _ h => h) (by rfl) ?_ (by assumption) ?_; rotate_left; intro w hSw; (try dsimp only at hSw); go_simp; with_reducible rfl; simp only [Act.put, List.setIfInBounds_toArray, List.set_cons_zero, List.set_cons_succ]) | (refine take_no (i := 3) rfl (by kernel_rfl) (by decide +kernel) (by decide +kernel) (fun _ _ _ h => h) (by rfl) (by assumption) ?_; simp only [Act.put, List.setIfInBounds_toArray, List.set_cons_zero, List.set_cons_succ]))
  try (first | (refine take_yes (i := 4) (v := ?_) rfl (by kernel_rfl) (by decide +kernel) (by decide +kernel) (fun _ _ _ h => h) (by rfl) ?_ (by assumption) ?_; rotate_left; intro w hSw; (try dsimp only at hSw); go_simp; with_reducible rfl; simp only [Act.put, List.setIfInBounds_toArray, List.set_cons_zero, List.set_cons_succ]) | (refine take_no (i := 4) rfl (by kernel_rfl) (by decide +kernel) (by decide +kernel) (fun _ _ _ h => h) (by rfl) (by assumption) ?_; simp only [Act.put, List.setIfInBounds_toArray, List.set_cons_zero, List.set_cons_succ]))
  try (first | (refine take_yes (i := 5) (v := ?_) rfl (by kernel_rfl) (by decide +kernel) (by decide +kernel) (fun _ _ _ h => h) (by rfl) ?_ (by assumption) ?_; rotate_left; intro w hSw; (try dsimp only at hSw); go_simp; with_reducible rfl; simp only [Act.put, List.setIfInBounds_toArray, List.set_cons_zero, List.set_cons_succ]) | (refine take_no (i := 5) rfl (by kernel_rfl) (by decide +kernel) (by decide +kernel) (fun _ _ _ h => h) (by rfl) (by assumption) ?_; simp only [Act.put, List.setIfInBounds_toArray, List.set_cons_zero, List.set_cons_succ]))
  try (first | (refine take_yes (i := 6) (v := ?_) rfl (by kernel_rfl) (by decide +kernel) (by decide +kernel) (fun _ _ _ h => h) (by rfl) ?_ (by assumption) ?_; rotate_left; intro w hSw; (try dsimp only at hSw); go_simp; with_reducible rfl; simp only [Act.put, List.setIfInBounds_toArray, List.set_cons_zero, List.set_cons_succ]) | (refine take_no (i := 6) rfl (by kernel_rfl) (by decide +kernel) (by decide +kernel) (fun _ _ _ h => h) (by rfl) (by assumption) ?_; simp only [Act.put, List.setIfInBounds_toArray, List.set_cons_zero, List.set_cons_succ]))
  try (first | (refine take_yes (i := 9) (v := ?_) rfl (by kernel_rfl) (by decide +kernel) (by decide +kernel) (fun _ _ _ h => h) (by rfl) ?_ (by assumption) ?_; rotate_left; intro w hSw; (try dsimp only at hSw); go_simp; with_reducible rfl; simp only [Act.put, List.setIfInBounds_toArray, List.set_cons_zero, List.set_cons_succ]) | (refine take_no (i := 9) rfl (by kernel_rfl) (by decide +kernel) (by decide +kernel) (fun _ _ _ h => h) (by rfl) (by assumption) ?_; simp only [Act.put, List.setIfInBounds_toArray, List.set_cons_zero, List.set_cons_succ]))
  refine take_two (i := 0) (j := 7) (by decide +kernel) rfl rfl (by rfl) (by rfl) (fun K hK => ?_) (fun K hK => ?_)
  · go_simp
    go_at_call 64
    refine (arity_any _).mono ?_
    rintro e w3 ⟨mb, rfl, hm, b3⟩
    have R_3 := Lib.hid (R_2.out.below b3)
    clear R_2
    have RB_3 := Lib.hid (RB0.out.trans (b3.mono RB0.out.size))
    clear RB0
    have KT_3 := Lib.hid (KT_2.out.below b3 KT_2.out.lt)
    clear KT_2
    have B_3 := Lib.hid (B_2.out.trans (b3.mono B_2.out.size))
    clear B_2
    clear b3
    have M0 := Lib.hid hm
    clear hm
    try go_simp
    refine hK.out _ _ (HS2.out _ RB_3.out) (fun hHeld => ?_)
    clear hK
    try simp only [Act.put, List.setIfInBounds_toArray, List.set_cons_zero, List.set_cons_succ]
    try (first | (refine take_yes (i := 1) (v := ?_) rfl (by kernel_rfl) (by decide +kernel) (by decide +kernel) (fun _ _ _ h => h) (by rfl) ?_ (by assumption) ?_; rotate_left; intro w hSw; (try dsimp only at hSw); go_simp; with_reducible rfl; simp only [Act.put, List.setIfInBounds_toArray, List.set_cons_zero, List.set_cons_succ]) | (refine take_no (i := 1) rfl (by kernel_rfl) (by decide +kernel) (by decide +kernel) (fun _ _ _ h => h) (by rfl) (by assumption) ?_; simp only [Act.put, List.setIfInBounds_toArray, List.set_cons_zero, List.set_cons_succ]))
    try (first | (refine take_yes (i := 2) (v := ?_) rfl (by kernel_rfl) (by decide +kernel) (by decide +kernel) (fun _ _ _ h => h) (by rfl) ?_ (by assumption) ?_; rotate_left; intro w hSw; (try dsimp only at hSw); go_simp; with_reducible rfl; simp only [Act.put, List.setIfInBounds_toArray, List.set_cons_zero, List.set_cons_succ]) | (refine take_no (i := 2) rfl (by kernel_rfl) (by decide +kernel) (by decide +kernel) (fun _ _ _ h => h) (by rfl) (by assumption) ?_; simp only [Act.put, List.setIfInBounds_toArray, List.set_cons_zero, List.set_cons_succ]))
    try (first | (refine take_yes (i := 3) (v := ?_) rfl (by kernel_rfl) (by decide +kernel) (by decide +kernel) (fun _ _ _ h => h) (by rfl) ?_ (by assumption) ?_; rotate_left; intro w hSw; (try dsimp only at hSw); go_simp; with_reducible rfl; simp only [Act.put, List.setIfInBounds_toArray, List.set_cons_zero, List.set_cons_succ]) | (refine take_no (i := 3) rfl (by kernel_rfl) (by decide +kernel) (by decide +kernel) (fun _ _ _ h => h) (by rfl) (by assumption) ?_; simp only [Act.put, List.setIfInBounds_toArray, List.set_cons_zero, List.set_cons_succ]))
    try (first | (refine take_yes (i := 4) (v := ?_) rfl (by kernel_rfl) (by decide +kernel) (by decide +kernel) (fun _ _ _ h => h) (by rfl) ?_ (by assumption) ?_; rotate_left; intro w hSw; (try dsimp only at hSw); go_simp; with_reducible rfl; simp only [Act.put, List.setIfInBounds_toArray, List.set_cons_zero, List.set_cons_succ]) | (refine take_no (i := 4) rfl (by kernel_rfl) (by decide +kernel) (by decide +kernel) (fun _ _ _ h => h) (by rfl) (by assumption) ?_; simp only [Act.put, List.setIfInBounds_toArray, List.set_cons_zero, List.set_cons_succ]))
    try (first | (refine take_yes (i := 5) (v := ?_) rfl (by kernel_rfl) (by decide +kernel) (by decide +kernel) (fun _ _ _ h => h) (by rfl) ?_ (by assumption) ?_; rotate_left; intro w hSw; (try dsimp only at hSw); go_simp; with_reducible rfl; simp only [Act.put, List.setIfInBounds_toArray, List.set_cons_zero, List.set_cons_succ]) | (refine take_no (i := 5) rfl (by kernel_rfl) (by decide +kernel) (by decide +kernel) (fun _ _ _ h => h) (by rfl) (by assumption) ?_; simp only [Act.put, List.setIfInBounds_toArray, List.set_cons_zero, List.set_cons_succ]))
    try (first | (refine take_yes (i := 6) (v := ?_) rfl (by kernel_rfl) (by decide +kernel) (by decide +kernel) (fun _ _ _ h => h) (by rfl) ?_ (by assumption) ?_; rotate_left; intro w hSw; (try dsimp only at hSw); go_simp; with_reducible rfl; simp only [Act.put, List.setIfInBounds_toArray, List.set_cons_zero, List.set_cons_succ]) | (refine take_no (i := 6) rfl (by kernel_rfl) (by decide +kernel) (by decide +kernel) (fun _ _ _ h => h) (by rfl) (by assumption) ?_; simp only [Act.put, List.setIfInBounds_toArray, List.set_cons_zero, List.set_cons_succ]))
    try (first | (refine take_yes (i := 9) (v := ?_) rfl (by kernel_rfl) (by decide +kernel) (by decide +kernel) (fun _ _ _ h => h) (by rfl) ?_ (by assumption) ?_; rotate_left; intro w hSw; (try dsimp only at hSw); go_simp; with_reducible rfl; simp only [Act.put, List.setIfInBounds_toArray, List.set_cons_zero, List.set_cons_succ]) | (refine take_no (i := 9) rfl (by kernel_rfl) (by decide +kernel) (by decide +kernel) (fun _ _ _ h => h) (by rfl) (by assumption) ?_; simp only [Act.put, List.setIfInBounds_toArray, List.set_cons_zero, List.set_cons_succ]))
    refine take_two (i := 3) (j := 7) (by decide +kernel) rfl rfl (by rfl) (by rfl) (fun K hK => ?_) (fun K hK => ?_)
    · have hlk := arity_look M0.out g.op HW.out
      rw [IO.out, LZ.out, HHZ.out] at hlk
      go_simp
      clear hlk
      try go_simp
      refine hK.out _ _ (HS2.out _ RB_3.out) (fun hHeld => ?_)
      clear hK
      try simp only [Act.put, List.setIfInBounds_toArray, List.set_cons_zero, List.set_cons_succ]
      try (first | (refine take_yes (i := 1) (v := ?_) rfl (by kernel_rfl) (by decide +kernel) (by decide +kernel) (fun _ _ _ h => h) (by rfl) ?_ (by assumption) ?_; rotate_left; intro w hSw; (try dsimp only at hSw); go_simp; with_reducible rfl; simp only [Act.put, List.setIfInBounds_toArray, List.set_cons_zero, List.set_cons_succ]) | (refine take_no (i := 1) rfl (by kernel_rfl) (by decide +kernel) (by decide +kernel) (fun _ _ _ h => h) (by rfl) (by assumption) ?_; simp only [Act.put, List.setIfInBounds_toArray, List.set_cons_zero, List.set_cons_succ]))
      try (first | (refine take_yes (i := 2) (v := ?_) rfl (by kernel_rfl) (by decide +kernel) (by decide +kernel) (fun _ _ _ h => h) (by rfl) ?_ (by assumption) ?_; rotate_left; intro w hSw; (try dsimp only at hSw); go_simp; with_reducible rfl; simp only [Act.put, List.setIfInBounds_toArray, List.set_cons_zero, List.set_cons_succ]) | (refine take_no (i := 2) rfl (by kernel_rfl) (by decide +kernel) (by decide +kernel) (fun _ _ _ h => h) (by rfl) (by assumption) ?_; simp only [Act.put, List.setIfInBounds_toArray, List.set_cons_zero, List.set_cons_succ]))
      try (first | (refine take_yes (i := 3) (v := ?_) rfl (by kernel_rfl) (by decide +kernel) (by decide +kernel) (fun _ _ _ h => h) (by rfl) ?_ (by assumption) ?_; rotate_left; intro w hSw; (try dsimp only at hSw); go_simp; with_reducible rfl; simp only [Act.put, List.setIfInBounds_toArray, List.set_cons_zero, List.set_cons_succ]) | (refine take_no (i := 3) rfl (by kernel_rfl) (by decide +kernel) (by decide +kernel) (fun _ _ _ h => h) (by rfl) (by assumption) ?_; simp only [Act.put, List.setIfInBounds_toArray, List.set_cons_zero, List.set_cons_succ]))
      try (first | (refine take_yes (i := 4) (v := ?_) rfl (by kernel_rfl) (by decide +kernel) (by decide +kernel) (fun _ _ _ h => h) (by rfl) ?_ (by assumption) ?_; rotate_left; intro w hSw; (try dsimp only at hSw); go_simp; with_reducible rfl; simp only [Act.put, List.setIfInBounds_toArray, List.set_cons_zero, List.set_cons_succ]) | (refine take_no (i := 4) rfl (by kernel_rfl) (by decide +kernel) (by decide +kernel) (fun _ _ _ h => h) (by rfl) (by assumption) ?_; simp only [Act.put, List.setIfInBounds_toArray, List.set_cons_zero, List.set_cons_succ]))
      try (first | (refine take_yes (i := 5) (v := ?_) rfl (by kernel_rfl) (by decide +kernel) (by decide +kernel) (fun _ _ _ h => h) (by rfl) ?_ (by assumption) ?_; rotate_left; intro w hSw; (try dsimp only at hSw); go_simp; with_reducible rfl; simp only [Act.put, List.setIfInBounds_toArray, List.set_cons_zero, List.set_cons_succ]) | (refine take_no (i := 5) rfl (by kernel_rfl) (by decide +kernel) (by decide +kernel) (fun _ _ _ h => h) (by rfl) (by assumption) ?_; simp only [Act.put, List.setIfInBounds_toArray, List.set_cons_zero, List.set_cons_succ]))
      try (first | (refine take_yes (i := 6) (v := ?_) rfl (by kernel_rfl) (by decide +kernel) (by decide +kernel) (fun _ _ _ h => h) (by rfl) ?_ (by assumption) ?_; rotate_left; intro w hSw; (try dsimp only at hSw); go_simp; with_reducible rfl; simp only [Act.put, List.setIfInBounds_toArray, List.set_cons_zero, List.set_cons_succ]) | (refine take_no (i := 6) rfl (by kernel_rfl) (by decide +kernel) (by decide +kernel) (fun _ _ _ h => h) (by rfl) (by assumption) ?_; simp only [Act.put, List.setIfInBounds_toArray, List.set_cons_zero, List.set_cons_succ]))
      try (first | (refine take_yes (i := 9) (v := ?_) rfl (by kernel_rfl) (by decide +kernel) (by decide +kernel) (fun _ _ _ h => h) (by rfl) ?_ (by assumption) ?_; rotate_left; intro w hSw; (try dsimp only at hSw); go_simp; with_reducible rfl; simp only [Act.put, List.setIfInBounds_toArray, List.set_cons_zero, List.set_cons_succ]) | (refine take_no (i := 9) rfl (by kernel_rfl) (by decide +kernel) (by decide +kernel) (fun _ _ _ h => h) (by rfl) (by assumption) ?_; simp only [Act.put, List.setIfInBounds_toArray, List.set_cons_zero, List.set_cons_succ]))
      refine take_this (i := 7) (by decide +kernel) rfl (by rfl) (fun K hK => ?_)
      go_simp
      have gB := RB_3.out.size
      have a2 : Below w3.heap.size w3 (w3.alloc (.cells #[.int .i64 0, .int .i64 0] 73)) := ((Below.refl w3.heap.size w3).alloc (by first | exact Nat.le_refl _ | (simp only [World.size_alloc]; omega)) (.cells #[.int .i64 0, .int .i64 0] 73))
      have A_new3 := (Blk.new w3 #[.int .i64 0, .int .i64 0] 73)
      have KA_03 := Lib.hid A_new3
      clear A_new3
      have R_4 := Lib.hid (R_3.out.below a2)
      clear R_3
      have RB_4 := Lib.hid (RB_3.out.trans (a2.mono RB_3.out.size))
      clear RB_3
      have M_4 := Lib.hid (own_below M0.out a2)
      clear M0
      have KT_4 := Lib.hid (KT_3.out.below a2 KT_3.out.lt)
      clear KT_3
      have B_4 := Lib.hid (B_3.out.trans (a2.mono B_3.out.size))
      clear B_3
      clear a2
      generalize (w3.alloc (.cells #[.int .i64 0, .int .i64 0] 73)) = w4 at R_4 RB_4 M_4 KT_4 KA_03 B_4 ⊢
      try go_simp
      refine hK.out _ _ (HS2.out _ RB_4.out) (fun hHeld => ?_)
      clear hK
      try simp only [Act.put, List.setIfInBounds_toArray, List.set_cons_zero, List.set_cons_succ]
      try (first | (refine take_yes (i := 1) (v := ?_) rfl (by kernel_rfl) (by decide +kernel) (by decide +kernel) (fun _ _ _ h => h) (by rfl) ?_ (by assumption) ?_; rotate_left; intro w hSw; (try dsimp only at hSw); go_simp; with_reducible rfl; simp only [Act.put, List.setIfInBounds_toArray, List.set_cons_zero, List.set_cons_succ]) | (refine take_no (i := 1) rfl (by kernel_rfl) (by decide +kernel) (by decide +kernel) (fun _ _ _ h => h) (by rfl) (by assumption) ?_; simp only [Act.put, List.setIfInBounds_toArray, List.set_cons_zero, List.set_cons_succ]))
      try (first | (refine take_yes (i := 2) (v := ?_) rfl (by kernel_rfl) (by decide +kernel) (by decide +kernel) (fun _ _ _ h => h) (by rfl) ?_ (by assumption) ?_; rotate_left; intro w hSw; (try dsimp only at hSw); go_simp; with_reducible rfl; simp only [Act.put, List.setIfInBounds_toArray, List.set_cons_zero, List.set_cons_succ]) | (refine take_no (i := 2) rfl (by kernel_rfl) (by decide +kernel) (by decide +kernel) (fun _ _ _ h => h) (by rfl) (by assumption) ?_; simp only [Act.put, List.setIfInBounds_toArray, List.set_cons_zero, List.set_cons_succ]))
      try (first | (refine take_yes (i := 3) (v := ?_) rfl (by kernel_rfl) (by decide +kernel) (by decide +kernel) (fun _ _ _ h => h) (by rfl) ?_ (by assumption) ?_; rotate_left; intro w hSw; (try dsimp only at hSw); go_simp; with_reducible rfl; simp only [Act.put, List.setIfInBounds_toArray, List.set_cons_zero, List.set_cons_succ]) | (refine take_no (i := 3) rfl (by kernel_rfl) (by decide +kernel) (by decide +kernel) (fun _ _ _ h => h) (by rfl) (by assumption) ?_; simp only [Act.put, List.setIfInBounds_toArray, List.set_cons_zero, List.set_cons_succ]))
      try (first | (refine take_yes (i := 4) (v := ?_) rfl (by kernel_rfl) (by decide +kernel) (by decide +kernel) (fun _ _ _ h => h) (by rfl) ?_ (by assumption) ?_; rotate_left; intro w hSw; (try dsimp only at hSw); go_simp; with_reducible rfl; simp only [Act.put, List.setIfInBounds_toArray, List.set_cons_zero, List.set_cons_succ]) | (refine take_no (i := 4) rfl (by kernel_rfl) (by decide +kernel) (by decide +kernel) (fun _ _ _ h => h) (by rfl) (by assumption) ?_; simp only [Act.put, List.setIfInBounds_toArray, List.set_cons_zero, List.set_cons_succ]))
      try (first | (refine take_yes (i := 5) (v := ?_) rfl (by kernel_rfl) (by decide +kernel) (by decide +kernel) (fun _ _ _ h => h) (by rfl) ?_ (by assumption) ?_; rotate_left; intro w hSw; (try dsimp only at hSw); go_simp; with_reducible rfl; simp only [Act.put, List.setIfInBounds_toArray, List.set_cons_zero, List.set_cons_succ]) | (refine take_no (i := 5) rfl (by kernel_rfl) (by decide +kernel) (by decide +kernel) (fun _ _ _ h => h) (by rfl) (by assumption) ?_; simp only [Act.put, List.setIfInBounds_toArray, List.set_cons_zero, List.set_cons_succ]))
      try (first | (refine take_yes (i := 6) (v := ?_) rfl (by kernel_rfl) (by decide +kernel) (by decide +kernel) (fun _ _ _ h => h) (by rfl) ?_ (by assumption) ?_; rotate_left; intro w hSw; (try dsimp only at hSw); go_simp; with_reducible rfl; simp only [Act.put, List.setIfInBounds_toArray, List.set_cons_zero, List.set_cons_succ]) | (refine take_no (i := 6) rfl (by kernel_rfl) (by decide +kernel) (by decide +kernel) (fun _ _ _ h => h) (by rfl) (by assumption) ?_; simp only [Act.put, List.setIfInBounds_toArray, List.set_cons_zero, List.set_cons_succ]))
      try (first | (refine take_yes (i := 9) (v := ?_) rfl (by kernel_rfl) (by decide +kernel) (by decide +kernel) (fun _ _ _ h => h) (by rfl) ?_ (by assumption) ?_; rotate_left; intro w hSw; (try dsimp only at hSw); go_simp; with_reducible rfl; simp only [Act.put, List.setIfInBounds_toArray, List.set_cons_zero, List.set_cons_succ]) | (refine take_no (i := 9) rfl (by kernel_rfl) (by decide +kernel) (by decide +kernel) (fun _ _ _ h => h) (by rfl) (by assumption) ?_; simp only [Act.put, List.setIfInBounds_toArray, List.set_cons_zero, List.set_cons_succ]))
      refine take_this (i := 8) (by decide +kernel) rfl (by rfl) (fun K hK => ?_)
      have f0 := KA_03.out.frozen 0
      have e0 : w4.cell? ⟨w3.heap.size, 0, none⟩ = some (.int .i64 0) := KA_03.out.cell 0
      have f1 := KA_03.out.frozen 1
      have e1 : w4.cell? ⟨w3.heap.size, 1, none⟩ = some (.int .i64 0) := KA_03.out.cell 1
      go_simp
      clear f0 e0 f1 e1
      have RB_5 := Lib.hid ((RB_4.out.setCell (p := ⟨w3.heap.size, 0, none⟩) (by show w1.heap.size ≤ w3.heap.size; omega) (.int .i64 lz)).setCell (p := ⟨w3.heap.size, 1, none⟩) (by show w1.heap.size ≤ w3.heap.size; omega) (.int .i64 hz'))
      have KA_5 := Lib.hid ((KA_03.out.set 0 (.int .i64 lz)).set 1 (.int .i64 hz'))
      have R_5 := Lib.hid (R_o2.out.below RB_5.out)
      have KT_5 := Lib.hid (KT_o2.out.below RB_5.out KT_o2.out.lt)
      have B_5 := Lib.hid (B_o2.out.trans (RB_5.out.mono B_o2.out.size))
      clear R_4 RB_4 M_4 KT_4 KA_03 B_4
      clear R_o2 KT_o2 B_o2 gB
      generalize ((w4.setCell ⟨w3.heap.size, 0, none⟩ (.int .i64 lz)).setCell ⟨w3.heap.size, 1, none⟩ (.int .i64 hz')) = w5 at RB_5 R_5 KA_5 KT_5 B_5 ⊢
      try go_simp
      refine hK.out _ _ (HS2.out _ RB_5.out) (fun hHeld => ?_)
      clear hK
      try simp only [Act.put, List.setIfInBounds_toArray, List.set_cons_zero, List.set_cons_succ]
      try (first | (refine take_yes (i := 9) (v := ?_) rfl (by kernel_rfl) (by decide +kernel) (by decide +kernel) (fun _ _ _ h => h) (by rfl) ?_ (by assumption) ?_; rotate_left; intro w hSw; (try dsimp only at hSw); go_simp; with_reducible rfl; simp only [Act.put, List.setIfInBounds_toArray, List.set_cons_zero, List.set_cons_succ]) | (refine take_no (i := 9) rfl (by kernel_rfl) (by decide +kernel) (by decide +kernel) (fun _ _ _ h => h) (by rfl) (by assumption) ?_; simp only [Act.put, List.setIfInBounds_toArray, List.set_cons_zero, List.set_cons_succ]))
      refine wpAnyH_done (by decide +kernel) ?_ _
      clear hHeld HS2 RB_5
      cases io
      · obtain rfl : q = false := by rw [← HQ.out]; exact gate_out IO.out
        clear HQ
        have lA_5 : w3.heap.size < w5.heap.size := KA_5.out.lt
        have cA_0_5 : w5.cell? ⟨w3.heap.size, 0, none⟩ = some (.int .i64 lz) := KA_5.out.cell 0
        have cA_1_5 : w5.cell? ⟨w3.heap.size, 1, none⟩ = some (.int .i64 hz') := KA_5.out.cell 1
        have lT_5 : w.heap.size < w5.heap.size := KT_5.out.lt
        have cT_0_5 : w5.cell? ⟨w.heap.size, 0, none⟩ = some (.string g.name) := KT_5.out.cell 0
        have cT_1_5 : w5.cell? ⟨w.heap.size, 1, none⟩ = some (.int .i64 g.op) := KT_5.out.cell 1
        have cT_2_5 : w5.cell? ⟨w.heap.size, 2, none⟩ = some (.slice pi g.ins.length qi) := KT_5.out.cell 2
        have cT_3_5 : w5.cell? ⟨w.heap.size, 3, none⟩ = some (.slice pr g.rows.length qr) := KT_5.out.cell 3
        have cT_4_5 : w5.cell? ⟨w.heap.size, 4, none⟩ = some (.bool g.off) := KT_5.out.cell 4
        go_wp2
        go_ret
        exact ⟨rfl, B_5.out⟩
      · by_cases h10 : g.op = 10
        · obtain rfl : lz = 0 := by rw [← LZ.out, h10]; rfl
          obtain rfl : hz' = 8 := by rw [← HHZ.out, h10]; rfl
          have hv := gate_cover h10
          rw [HQ.out] at hv
          clear HQ
          have n10 : (g.op != 10) = false := by rw [h10]; rfl
          clear h10
          have hlo : decide ((g.ins.length : Int) < 0) = false := decide_eq_false (by omega)
          by_cases h8 : (8 : Int) < (g.ins.length : Int)
          · obtain rfl : q = false := by rw [hv, decide_eq_false (show ¬ g.ins.length ≤ 8 by omega)]; rfl
            clear hv
            have lA_5 : w3.heap.size < w5.heap.size := KA_5.out.lt
            have cA_0_5 : w5.cell? ⟨w3.heap.size, 0, none⟩ = some (.int .i64 0) := KA_5.out.cell 0
            have cA_1_5 : w5.cell? ⟨w3.heap.size, 1, none⟩ = some (.int .i64 8) := KA_5.out.cell 1
            have lT_5 : w.heap.size < w5.heap.size := KT_5.out.lt
            have cT_0_5 : w5.cell? ⟨w.heap.size, 0, none⟩ = some (.string g.name) := KT_5.out.cell 0
            have cT_1_5 : w5.cell? ⟨w.heap.size, 1, none⟩ = some (.int .i64 g.op) := KT_5.out.cell 1
            have cT_2_5 : w5.cell? ⟨w.heap.size, 2, none⟩ = some (.slice pi g.ins.length qi) := KT_5.out.cell 2
            have cT_3_5 : w5.cell? ⟨w.heap.size, 3, none⟩ = some (.slice pr g.rows.length qr) := KT_5.out.cell 3
            have cT_4_5 : w5.cell? ⟨w.heap.size, 4, none⟩ = some (.bool g.off) := KT_5.out.cell 4
            go_wp2
            go_ret
            exact ⟨rfl, B_5.out⟩
          · have h8' : decide ((8 : Int) < (g.ins.length : Int)) = false := decide_eq_false h8
            rw [decide_eq_true (show g.ins.length ≤ 8 by omega), Bool.true_and] at hv
            by_cases h128 : (g.rows.length : Int) ≤ 128
            · rw [decide_eq_true (show g.rows.length ≤ 128 by omega), Bool.true_and] at hv
              have HV := Lib.hid hv.symm
              clear hv
              have lA_5 : w3.heap.size < w5.heap.size := KA_5.out.lt
              have cA_0_5 : w5.cell? ⟨w3.heap.size, 0, none⟩ = some (.int .i64 0) := KA_5.out.cell 0
              have cA_1_5 : w5.cell? ⟨w3.heap.size, 1, none⟩ = some (.int .i64 8) := KA_5.out.cell 1
              have lT_5 : w.heap.size < w5.heap.size := KT_5.out.lt
              have cT_0_5 : w5.cell? ⟨w.heap.size, 0, none⟩ = some (.string g.name) := KT_5.out.cell 0
              have cT_1_5 : w5.cell? ⟨w.heap.size, 1, none⟩ = some (.int .i64 g.op) := KT_5.out.cell 1
              have cT_2_5 : w5.cell? ⟨w.heap.size, 2, none⟩ = some (.slice pi g.ins.length qi) := KT_5.out.cell 2
              have cT_3_5 : w5.cell? ⟨w.heap.size, 3, none⟩ = some (.slice pr g.rows.length qr) := KT_5.out.cell 3
              have cT_4_5 : w5.cell? ⟨w.heap.size, 4, none⟩ = some (.bool g.off) := KT_5.out.cell 4
              go_wp2_with fail
              clear lA_5 cA_0_5 cA_1_5 lT_5 cT_0_5 cT_1_5 cT_2_5 cT_3_5 cT_4_5
              refine (cont_any g.rows _ _ _ _ _ _ _ g.ins.length qi q _ KT_5.out l2 HZ.out R_5.out.lst HV.out).mono ?_
              rintro e w6 ⟨rfl, b6⟩
              have R_6 := Lib.hid (R_5.out.below b6)
              clear R_5
              have KA_6 := Lib.hid (KA_5.out.below b6 KA_5.out.lt)
              clear KA_5
              have KT_6 := Lib.hid (KT_5.out.below b6 KT_5.out.lt)
              clear KT_5
              have B_6 := Lib.hid (B_5.out.trans (b6.mono B_5.out.size))
              clear B_5
              clear b6
              clear HV
              cases q
              · go_wp2
                go_ret
                exact ⟨rfl, B_6.out⟩
              · go_wp2
                go_ret
                exact ⟨rfl, B_6.out⟩
            · have h128' : decide ((g.rows.length : Int) ≤ 128) = false := decide_eq_false h128
              obtain rfl : q = false := by rw [hv, decide_eq_false (show ¬ g.rows.length ≤ 128 by omega)]; rfl
              clear hv
              have lA_5 : w3.heap.size < w5.heap.size := KA_5.out.lt
              have cA_0_5 : w5.cell? ⟨w3.heap.size, 0, none⟩ = some (.int .i64 0) := KA_5.out.cell 0
              have cA_1_5 : w5.cell? ⟨w3.heap.size, 1, none⟩ = some (.int .i64 8) := KA_5.out.cell 1
              have lT_5 : w.heap.size < w5.heap.size := KT_5.out.lt
              have cT_0_5 : w5.cell? ⟨w.heap.size, 0, none⟩ = some (.string g.name) := KT_5.out.cell 0
              have cT_1_5 : w5.cell? ⟨w.heap.size, 1, none⟩ = some (.int .i64 g.op) := KT_5.out.cell 1
              have cT_2_5 : w5.cell? ⟨w.heap.size, 2, none⟩ = some (.slice pi g.ins.length qi) := KT_5.out.cell 2
              have cT_3_5 : w5.cell? ⟨w.heap.size, 3, none⟩ = some (.slice pr g.rows.length qr) := KT_5.out.cell 3
              have cT_4_5 : w5.cell? ⟨w.heap.size, 4, none⟩ = some (.bool g.off) := KT_5.out.cell 4
              go_wp2
              go_ret
              exact ⟨rfl, B_5.out⟩
        · have hv := gate_other IO.out h10
          rw [HQ.out, LZ.out, HHZ.out] at hv
          clear HQ
          have n10 : (g.op != 10) = true := by rw [bne_iff_ne]; exact h10
          clear h10 LZ HHZ
          by_cases hl : (g.ins.length : Int) < lz
          · obtain rfl : q = false := by rw [hv, decide_eq_false (show ¬ lz ≤ (g.ins.length : Int) by omega)]; rfl
            clear hv
            have lA_5 : w3.heap.size < w5.heap.size := KA_5.out.lt
            have cA_0_5 : w5.cell? ⟨w3.heap.size, 0, none⟩ = some (.int .i64 lz) := KA_5.out.cell 0
            have cA_1_5 : w5.cell? ⟨w3.heap.size, 1, none⟩ = some (.int .i64 hz') := KA_5.out.cell 1
            have lT_5 : w.heap.size < w5.heap.size := KT_5.out.lt
            have cT_0_5 : w5.cell? ⟨w.heap.size, 0, none⟩ = some (.string g.name) := KT_5.out.cell 0
            have cT_1_5 : w5.cell? ⟨w.heap.size, 1, none⟩ = some (.int .i64 g.op) := KT_5.out.cell 1
            have cT_2_5 : w5.cell? ⟨w.heap.size, 2, none⟩ = some (.slice pi g.ins.length qi) := KT_5.out.cell 2
            have cT_3_5 : w5.cell? ⟨w.heap.size, 3, none⟩ = some (.slice pr g.rows.length qr) := KT_5.out.cell 3
            have cT_4_5 : w5.cell? ⟨w.heap.size, 4, none⟩ = some (.bool g.off) := KT_5.out.cell 4
            go_wp2
            go_ret
            exact ⟨rfl, B_5.out⟩
          · have hl' : decide ((g.ins.length : Int) < lz) = false := decide_eq_false hl
            rw [decide_eq_true (show lz ≤ (g.ins.length : Int) by omega), Bool.true_and] at hv
            by_cases hh : hz' < (g.ins.length : Int)
            · obtain rfl : q = false := by rw [hv, decide_eq_false (show ¬ (g.ins.length : Int) ≤ hz' by omega)]; rfl
              clear hv
              have lA_5 : w3.heap.size < w5.heap.size := KA_5.out.lt
              have cA_0_5 : w5.cell? ⟨w3.heap.size, 0, none⟩ = some (.int .i64 lz) := KA_5.out.cell 0
              have cA_1_5 : w5.cell? ⟨w3.heap.size, 1, none⟩ = some (.int .i64 hz') := KA_5.out.cell 1
              have lT_5 : w.heap.size < w5.heap.size := KT_5.out.lt
              have cT_0_5 : w5.cell? ⟨w.heap.size, 0, none⟩ = some (.string g.name) := KT_5.out.cell 0
              have cT_1_5 : w5.cell? ⟨w.heap.size, 1, none⟩ = some (.int .i64 g.op) := KT_5.out.cell 1
              have cT_2_5 : w5.cell? ⟨w.heap.size, 2, none⟩ = some (.slice pi g.ins.length qi) := KT_5.out.cell 2
              have cT_3_5 : w5.cell? ⟨w.heap.size, 3, none⟩ = some (.slice pr g.rows.length qr) := KT_5.out.cell 3
              have cT_4_5 : w5.cell? ⟨w.heap.size, 4, none⟩ = some (.bool g.off) := KT_5.out.cell 4
              go_wp2
              go_ret
              exact ⟨rfl, B_5.out⟩
            · have hh' : decide (hz' < (g.ins.length : Int)) = false := decide_eq_false hh
              rw [decide_eq_true (show (g.ins.length : Int) ≤ hz' by omega), Bool.true_and] at hv
              by_cases hr0 : g.rows.length = 0
              · have hr1 : ((g.rows.length : Int) == 0) = true := by rw [hr0]; rfl
                obtain ⟨of, hof⟩ : ∃ b, g.off = b := ⟨_, rfl⟩
                rw [List.eq_nil_of_length_eq_zero hr0, hof] at hv
                change q = (true && !of) at hv
                rw [Bool.true_and] at hv
                subst hv
                have HL0 := Lib.hid hr0
                clear hr0
                have lA_5 : w3.heap.size < w5.heap.size := KA_5.out.lt
                have cA_0_5 : w5.cell? ⟨w3.heap.size, 0, none⟩ = some (.int .i64 lz) := KA_5.out.cell 0
                have cA_1_5 : w5.cell? ⟨w3.heap.size, 1, none⟩ = some (.int .i64 hz') := KA_5.out.cell 1
                have lT_5 : w.heap.size < w5.heap.size := KT_5.out.lt
                have cT_0_5 : w5.cell? ⟨w.heap.size, 0, none⟩ = some (.string g.name) := KT_5.out.cell 0
                have cT_1_5 : w5.cell? ⟨w.heap.size, 1, none⟩ = some (.int .i64 g.op) := KT_5.out.cell 1
                have cT_2_5 : w5.cell? ⟨w.heap.size, 2, none⟩ = some (.slice pi g.ins.length qi) := KT_5.out.cell 2
                have cT_3_5 : w5.cell? ⟨w.heap.size, 3, none⟩ = some (.slice pr g.rows.length qr) := KT_5.out.cell 3
                have cT_4_5 : w5.cell? ⟨w.heap.size, 4, none⟩ = some (.bool g.off) := KT_5.out.cell 4
                rw [hof] at cT_4_5
                clear hof
                cases of
                · go_wp2
                  go_ret
                  exact ⟨rfl, B_5.out⟩
                · go_wp2
                  go_ret
                  exact ⟨rfl, B_5.out⟩
              · have hr1 : ((g.rows.length : Int) == 0) = false := by rw [beq_eq_false_iff_ne]; omega
                have hrn : ¬ g.rows = [] := fun h => hr0 (by rw [h]; rfl)
                obtain rfl : q = false := by rw [hv, show g.rows.isEmpty = false from by rw [Bool.eq_false_iff]; intro h; exact hrn (List.isEmpty_iff.1 h)]; rfl
                clear hv hr0
                have lA_5 : w3.heap.size < w5.heap.size := KA_5.out.lt
                have cA_0_5 : w5.cell? ⟨w3.heap.size, 0, none⟩ = some (.int .i64 lz) := KA_5.out.cell 0
                have cA_1_5 : w5.cell? ⟨w3.heap.size, 1, none⟩ = some (.int .i64 hz') := KA_5.out.cell 1
                have lT_5 : w.heap.size < w5.heap.size := KT_5.out.lt
                have cT_0_5 : w5.cell? ⟨w.heap.size, 0, none⟩ = some (.string g.name) := KT_5.out.cell 0
                have cT_1_5 : w5.cell? ⟨w.heap.size, 1, none⟩ = some (.int .i64 g.op) := KT_5.out.cell 1
                have cT_2_5 : w5.cell? ⟨w.heap.size, 2, none⟩ = some (.slice pi g.ins.length qi) := KT_5.out.cell 2
                have cT_3_5 : w5.cell? ⟨w.heap.size, 3, none⟩ = some (.slice pr g.rows.length qr) := KT_5.out.cell 3
                have cT_4_5 : w5.cell? ⟨w.heap.size, 4, none⟩ = some (.bool g.off) := KT_5.out.cell 4
                go_wp2
                go_ret
                exact ⟨rfl, B_5.out⟩
    · go_simp
      have gB := RB_3.out.size
      have a2 : Below w3.heap.size w3 (w3.alloc (.cells #[.int .i64 0, .int .i64 0] 73)) := ((Below.refl w3.heap.size w3).alloc (by first | exact Nat.le_refl _ | (simp only [World.size_alloc]; omega)) (.cells #[.int .i64 0, .int .i64 0] 73))
      have A_new3 := (Blk.new w3 #[.int .i64 0, .int .i64 0] 73)
      have KA_03 := Lib.hid A_new3
      clear A_new3
      have R_4 := Lib.hid (R_3.out.below a2)
      clear R_3
      have RB_4 := Lib.hid (RB_3.out.trans (a2.mono RB_3.out.size))
      clear RB_3
      have M_4 := Lib.hid (own_below M0.out a2)
      clear M0
      have KT_4 := Lib.hid (KT_3.out.below a2 KT_3.out.lt)
      clear KT_3
      have B_4 := Lib.hid (B_3.out.trans (a2.mono B_3.out.size))
      clear B_3
      clear a2
      generalize (w3.alloc (.cells #[.int .i64 0, .int .i64 0] 73)) = w4 at R_4 RB_4 M_4 KT_4 KA_03 B_4 ⊢
      try go_simp
      refine hK.out _ _ (HS2.out _ RB_4.out) (fun hHeld => ?_)
      clear hK
      try simp only [Act.put, List.setIfInBounds_toArray, List.set_cons_zero, List.set_cons_succ]
      try (first | (refine take_yes (i := 1) (v := ?_) rfl (by kernel_rfl) (by decide +kernel) (by decide +kernel) (fun _ _ _ h => h) (by rfl) ?_ (by assumption) ?_; rotate_left; intro w hSw; (try dsimp only at hSw); go_simp; with_reducible rfl; simp only [Act.put, List.setIfInBounds_toArray, List.set_cons_zero, List.set_cons_succ]) | (refine take_no (i := 1) rfl (by kernel_rfl) (by decide +kernel) (by decide +kernel) (fun _ _ _ h => h) (by rfl) (by assumption) ?_; simp only [Act.put, List.setIfInBounds_toArray, List.set_cons_zero, List.set_cons_succ]))
      try (first | (refine take_yes (i := 2) (v := ?_) rfl (by kernel_rfl) (by decide +kernel) (by decide +kernel) (fun _ _ _ h => h) (by rfl) ?_ (by assumption) ?_; rotate_left; intro w hSw; (try dsimp only at hSw); go_simp; with_reducible rfl; simp only [Act.put, List.setIfInBounds_toArray, List.set_cons_zero, List.set_cons_succ]) | (refine take_no (i := 2) rfl (by kernel_rfl) (by decide +kernel) (by decide +kernel) (fun _ _ _ h => h) (by rfl) (by assumption) ?_; simp only [Act.put, List.setIfInBounds_toArray, List.set_cons_zero, List.set_cons_succ]))
      try (first | (refine take_yes (i := 3) (v := ?_) rfl (by kernel_rfl) (by decide +kernel) (by decide +kernel) (fun _ _ _ h => h) (by rfl) ?_ (by assumption) ?_; rotate_left; intro w hSw; (try dsimp only at hSw); go_simp; with_reducible rfl; simp only [Act.put, List.setIfInBounds_toArray, List.set_cons_zero, List.set_cons_succ]) | (refine take_no (i := 3) rfl (by kernel_rfl) (by decide +kernel) (by decide +kernel) (fun _ _ _ h => h) (by rfl) (by assumption) ?_; simp only [Act.put, List.setIfInBounds_toArray, List.set_cons_zero, List.set_cons_succ]))
      try (first | (refine take_yes (i := 4) (v := ?_) rfl (by kernel_rfl) (by decide +kernel) (by decide +kernel) (fun _ _ _ h => h) (by rfl) ?_ (by assumption) ?_; rotate_left; intro w hSw; (try dsimp only at hSw); go_simp; with_reducible rfl; simp only [Act.put, List.setIfInBounds_toArray, List.set_cons_zero, List.set_cons_succ]) | (refine take_no (i := 4) rfl (by kernel_rfl) (by decide +kernel) (by decide +kernel) (fun _ _ _ h => h) (by rfl) (by assumption) ?_; simp only [Act.put, List.setIfInBounds_toArray, List.set_cons_zero, List.set_cons_succ]))
      try (first | (refine take_yes (i := 5) (v := ?_) rfl (by kernel_rfl) (by decide +kernel) (by decide +kernel) (fun _ _ _ h => h) (by rfl) ?_ (by assumption) ?_; rotate_left; intro w hSw; (try dsimp only at hSw); go_simp; with_reducible rfl; simp only [Act.put, List.setIfInBounds_toArray, List.set_cons_zero, List.set_cons_succ]) | (refine take_no (i := 5) rfl (by kernel_rfl) (by decide +kernel) (by decide +kernel) (fun _ _ _ h => h) (by rfl) (by assumption) ?_; simp only [Act.put, List.setIfInBounds_toArray, List.set_cons_zero, List.set_cons_succ]))
      try (first | (refine take_yes (i := 6) (v := ?_) rfl (by kernel_rfl) (by decide +kernel) (by decide +kernel) (fun _ _ _ h => h) (by rfl) ?_ (by assumption) ?_; rotate_left; intro w hSw; (try dsimp only at hSw); go_simp; with_reducible rfl; simp only [Act.put, List.setIfInBounds_toArray, List.set_cons_zero, List.set_cons_succ]) | (refine take_no (i := 6) rfl (by kernel_rfl) (by decide +kernel) (by decide +kernel) (fun _ _ _ h => h) (by rfl) (by assumption) ?_; simp only [Act.put, List.setIfInBounds_toArray, List.set_cons_zero, List.set_cons_succ]))
      try (first | (refine take_yes (i := 9) (v := ?_) rfl (by kernel_rfl) (by decide +kernel) (by decide +kernel) (fun _ _ _ h => h) (by rfl) ?_ (by assumption) ?_; rotate_left; intro w hSw; (try dsimp only at hSw); go_simp; with_reducible rfl; simp only [Act.put, List.setIfInBounds_toArray, List.set_cons_zero, List.set_cons_succ]) | (refine take_no (i := 9) rfl (by kernel_rfl) (by decide +kernel) (by decide +kernel) (fun _ _ _ h => h) (by rfl) (by assumption) ?_; simp only [Act.put, List.setIfInBounds_toArray, List.set_cons_zero, List.set_cons_succ]))
      refine take_this (i := 3) (by decide +kernel) rfl (by rfl) (fun K hK => ?_)
      have hlk := arity_look M_4.out g.op HW.out
      rw [IO.out, LZ.out, HHZ.out] at hlk
      go_simp
      clear hlk
      try go_simp
      refine hK.out _ _ (HS2.out _ RB_4.out) (fun hHeld => ?_)
      clear hK
      try simp only [Act.put, List.setIfInBounds_toArray, List.set_cons_zero, List.set_cons_succ]
      try (first | (refine take_yes (i := 1) (v := ?_) rfl (by kernel_rfl) (by decide +kernel) (by decide +kernel) (fun _ _ _ h => h) (by rfl) ?_ (by assumption) ?_; rotate_left; intro w hSw; (try dsimp only at hSw); go_simp; with_reducible rfl; simp only [Act.put, List.setIfInBounds_toArray, List.set_cons_zero, List.set_cons_succ]) | (refine take_no (i := 1) rfl (by kernel_rfl) (by decide +kernel) (by decide +kernel) (fun _ _ _ h => h) (by rfl) (by assumption) ?_; simp only [Act.put, List.setIfInBounds_toArray, List.set_cons_zero, List.set_cons_succ]))
      try (first | (refine take_yes (i := 2) (v := ?_) rfl (by kernel_rfl) (by decide +kernel) (by decide +kernel) (fun _ _ _ h => h) (by rfl) ?_ (by assumption) ?_; rotate_left; intro w hSw; (try dsimp only at hSw); go_simp; with_reducible rfl; simp only [Act.put, List.setIfInBounds_toArray, List.set_cons_zero, List.set_cons_succ]) | (refine take_no (i := 2) rfl (by kernel_rfl) (by decide +kernel) (by decide +kernel) (fun _ _ _ h => h) (by rfl) (by assumption) ?_; simp only [Act.put, List.setIfInBounds_toArray, List.set_cons_zero, List.set_cons_succ]))
      try (first | (refine take_yes (i := 3) (v := ?_) rfl (by kernel_rfl) (by decide +kernel) (by decide +kernel) (fun _ _ _ h => h) (by rfl) ?_ (by assumption) ?_; rotate_left; intro w hSw; (try dsimp only at hSw); go_simp; with_reducible rfl; simp only [Act.put, List.setIfInBounds_toArray, List.set_cons_zero, List.set_cons_succ]) | (refine take_no (i := 3) rfl (by kernel_rfl) (by decide +kernel) (by decide +kernel) (fun _ _ _ h => h) (by rfl) (by assumption) ?_; simp only [Act.put, List.setIfInBounds_toArray, List.set_cons_zero, List.set_cons_succ]))
      try (first | (refine take_yes (i := 4) (v := ?_) rfl (by kernel_rfl) (by decide +kernel) (by decide +kernel) (fun _ _ _ h => h) (by rfl) ?_ (by assumption) ?_; rotate_left; intro w hSw; (try dsimp only at hSw); go_simp; with_reducible rfl; simp only [Act.put, List.setIfInBounds_toArray, List.set_cons_zero, List.set_cons_succ]) | (refine take_no (i := 4) rfl (by kernel_rfl) (by decide +kernel) (by decide +kernel) (fun _ _ _ h => h) (by rfl) (by assumption) ?_; simp only [Act.put, List.setIfInBounds_toArray, List.set_cons_zero, List.set_cons_succ]))
      try (first | (refine take_yes (i := 5) (v := ?_) rfl (by kernel_rfl) (by decide +kernel) (by decide +kernel) (fun _ _ _ h => h) (by rfl) ?_ (by assumption) ?_; rotate_left; intro w hSw; (try dsimp only at hSw); go_simp; with_reducible rfl; simp only [Act.put, List.setIfInBounds_toArray, List.set_cons_zero, List.set_cons_succ]) | (refine take_no (i := 5) rfl (by kernel_rfl) (by decide +kernel) (by decide +kernel) (fun _ _ _ h => h) (by rfl) (by assumption) ?_; simp only [Act.put, List.setIfInBounds_toArray, List.set_cons_zero, List.set_cons_succ]))
      try (first | (refine take_yes (i := 6) (v := ?_) rfl (by kernel_rfl) (by decide +kernel) (by decide +kernel) (fun _ _ _ h => h) (by rfl) ?_ (by assumption) ?_; rotate_left; intro w hSw; (try dsimp only at hSw); go_simp; with_reducible rfl; simp only [Act.put, List.setIfInBounds_toArray, List.set_cons_zero, List.set_cons_succ]) | (refine take_no (i := 6) rfl (by kernel_rfl) (by decide +kernel) (by decide +kernel) (fun _ _ _ h => h) (by rfl) (by assumption) ?_; simp only [Act.put, List.setIfInBounds_toArray, List.set_cons_zero, List.set_cons_succ]))
      try (first | (refine take_yes (i := 9) (v := ?_) rfl (by kernel_rfl) (by decide +kernel) (by decide +kernel) (fun _ _ _ h => h) (by rfl) ?_ (by assumption) ?_; rotate_left; intro w hSw; (try dsimp only at hSw); go_simp; with_reducible rfl; simp only [Act.put, List.setIfInBounds_toArray, List.set_cons_zero, List.set_cons_succ]) | (refine take_no (i := 9) rfl (by kernel_rfl) (by decide +kernel) (by decide +kernel) (fun _ _ _ h => h) (by rfl) (by assumption) ?_; simp only [Act.put, List.setIfInBounds_toArray, List.set_cons_zero, List.set_cons_succ]))
      refine take_this (i := 8) (by decide +kernel) rfl (by rfl) (fun K hK => ?_)
      have f0 := KA_03.out.frozen 0
      have e0 : w4.cell? ⟨w3.heap.size, 0, none⟩ = some (.int .i64 0) := KA_03.out.cell 0
      have f1 := KA_03.out.frozen 1
      have e1 : w4.cell? ⟨w3.heap.size, 1, none⟩ = some (.int .i64 0) := KA_03.out.cell 1
      go_simp
      clear f0 e0 f1 e1
      have RB_5 := Lib.hid ((RB_4.out.setCell (p := ⟨w3.heap.size, 0, none⟩) (by show w1.heap.size ≤ w3.heap.size; omega) (.int .i64 lz)).setCell (p := ⟨w3.heap.size, 1, none⟩) (by show w1.heap.size ≤ w3.heap.size; omega) (.int .i64 hz'))
      have KA_5 := Lib.hid ((KA_03.out.set 0 (.int .i64 lz)).set 1 (.int .i64 hz'))
      have R_5 := Lib.hid (R_o2.out.below RB_5.out)
      have KT_5 := Lib.hid (KT_o2.out.below RB_5.out KT_o2.out.lt)
      have B_5 := Lib.hid (B_o2.out.trans (RB_5.out.mono B_o2.out.size))
      clear R_4 RB_4 M_4 KT_4 KA_03 B_4
      clear R_o2 KT_o2 B_o2 gB
      generalize ((w4.setCell ⟨w3.heap.size, 0, none⟩ (.int .i64 lz)).setCell ⟨w3.heap.size, 1, none⟩ (.int .i64 hz')) = w5 at RB_5 R_5 KA_5 KT_5 B_5 ⊢
      try go_simp
      refine hK.out _ _ (HS2.out _ RB_5.out) (fun hHeld => ?_)
      clear hK
      try simp only [Act.put, List.setIfInBounds_toArray, List.set_cons_zero, List.set_cons_succ]
      try (first | (refine take_yes (i := 9) (v := ?_) rfl (by kernel_rfl) (by decide +kernel) (by decide +kernel) (fun _ _ _ h => h) (by rfl) ?_ (by assumption) ?_; rotate_left; intro w hSw; (try dsimp only at hSw); go_simp; with_reducible rfl; simp only [Act.put, List.setIfInBounds_toArray, List.set_cons_zero, List.set_cons_succ]) | (refine take_no (i := 9) rfl (by kernel_rfl) (by decide +kernel) (by decide +kernel) (fun _ _ _ h => h) (by rfl) (by assumption) ?_; simp only [Act.put, List.setIfInBounds_toArray, List.set_cons_zero, List.set_cons_succ]))
      refine wpAnyH_done (by decide +kernel) ?_ _
      clear hHeld HS2 RB_5
      cases io
      · obtain rfl : q = false := by rw [← HQ.out]; exact gate_out IO.out
        clear HQ
        have lA_5 : w3.heap.size < w5.heap.size := KA_5.out.lt
        have cA_0_5 : w5.cell? ⟨w3.heap.size, 0, none⟩ = some (.int .i64 lz) := KA_5.out.cell 0
        have cA_1_5 : w5.cell? ⟨w3.heap.size, 1, none⟩ = some (.int .i64 hz') := KA_5.out.cell 1
        have lT_5 : w.heap.size < w5.heap.size := KT_5.out.lt
        have cT_0_5 : w5.cell? ⟨w.heap.size, 0, none⟩ = some (.string g.name) := KT_5.out.cell 0
        have cT_1_5 : w5.cell? ⟨w.heap.size, 1, none⟩ = some (.int .i64 g.op) := KT_5.out.cell 1
        have cT_2_5 : w5.cell? ⟨w.heap.size, 2, none⟩ = some (.slice pi g.ins.length qi) := KT_5.out.cell 2
        have cT_3_5 : w5.cell? ⟨w.heap.size, 3, none⟩ = some (.slice pr g.rows.length qr) := KT_5.out.cell 3
        have cT_4_5 : w5.cell? ⟨w.heap.size, 4, none⟩ = some (.bool g.off) := KT_5.out.cell 4
        go_wp2
        go_ret
        exact ⟨rfl, B_5.out⟩
      · by_cases h10 : g.op = 10
        · obtain rfl : lz = 0 := by rw [← LZ.out, h10]; rfl
          obtain rfl : hz' = 8 := by rw [← HHZ.out, h10]; rfl
          have hv := gate_cover h10
          rw [HQ.out] at hv
          clear HQ
          have n10 : (g.op != 10) = false := by rw [h10]; rfl
          clear h10
          have hlo : decide ((g.ins.length : Int) < 0) = false := decide_eq_false (by omega)
          by_cases h8 : (8 : Int) < (g.ins.length : Int)
          · obtain rfl : q = false := by rw [hv, decide_eq_false (show ¬ g.ins.length ≤ 8 by omega)]; rfl
            clear hv
            have lA_5 : w3.heap.size < w5.heap.size := KA_5.out.lt
            have cA_0_5 : w5.cell? ⟨w3.heap.size, 0, none⟩ = some (.int .i64 0) := KA_5.out.cell 0
            have cA_1_5 : w5.cell? ⟨w3.heap.size, 1, none⟩ = some (.int .i64 8) := KA_5.out.cell 1
            have lT_5 : w.heap.size < w5.heap.size := KT_5.out.lt
            have cT_0_5 : w5.cell? ⟨w.heap.size, 0, none⟩ = some (.string g.name) := KT_5.out.cell 0
            have cT_1_5 : w5.cell? ⟨w.heap.size, 1, none⟩ = some (.int .i64 g.op) := KT_5.out.cell 1
            have cT_2_5 : w5.cell? ⟨w.heap.size, 2, none⟩ = some (.slice pi g.ins.length qi) := KT_5.out.cell 2
            have cT_3_5 : w5.cell? ⟨w.heap.size, 3, none⟩ = some (.slice pr g.rows.length qr) := KT_5.out.cell 3
            have cT_4_5 : w5.cell? ⟨w.heap.size, 4, none⟩ = some (.bool g.off) := KT_5.out.cell 4
            go_wp2
            go_ret
            exact ⟨rfl, B_5.out⟩
          · have h8' : decide ((8 : Int) < (g.ins.length : Int)) = false := decide_eq_false h8
            rw [decide_eq_true (show g.ins.length ≤ 8 by omega), Bool.true_and] at hv
            by_cases h128 : (g.rows.length : Int) ≤ 128
            · rw [decide_eq_true (show g.rows.length ≤ 128 by omega), Bool.true_and] at hv
              have HV := Lib.hid hv.symm
              clear hv
              have lA_5 : w3.heap.size < w5.heap.size := KA_5.out.lt
              have cA_0_5 : w5.cell? ⟨w3.heap.size, 0, none⟩ = some (.int .i64 0) := KA_5.out.cell 0
              have cA_1_5 : w5.cell? ⟨w3.heap.size, 1, none⟩ = some (.int .i64 8) := KA_5.out.cell 1
              have lT_5 : w.heap.size < w5.heap.size := KT_5.out.lt
              have cT_0_5 : w5.cell? ⟨w.heap.size, 0, none⟩ = some (.string g.name) := KT_5.out.cell 0
              have cT_1_5 : w5.cell? ⟨w.heap.size, 1, none⟩ = some (.int .i64 g.op) := KT_5.out.cell 1
              have cT_2_5 : w5.cell? ⟨w.heap.size, 2, none⟩ = some (.slice pi g.ins.length qi) := KT_5.out.cell 2
              have cT_3_5 : w5.cell? ⟨w.heap.size, 3, none⟩ = some (.slice pr g.rows.length qr) := KT_5.out.cell 3
              have cT_4_5 : w5.cell? ⟨w.heap.size, 4, none⟩ = some (.bool g.off) := KT_5.out.cell 4
              go_wp2_with fail
              clear lA_5 cA_0_5 cA_1_5 lT_5 cT_0_5 cT_1_5 cT_2_5 cT_3_5 cT_4_5
              refine (cont_any g.rows _ _ _ _ _ _ _ g.ins.length qi q _ KT_5.out l2 HZ.out R_5.out.lst HV.out).mono ?_
              rintro e w6 ⟨rfl, b6⟩
              have R_6 := Lib.hid (R_5.out.below b6)
              clear R_5
              have KA_6 := Lib.hid (KA_5.out.below b6 KA_5.out.lt)
              clear KA_5
              have KT_6 := Lib.hid (KT_5.out.below b6 KT_5.out.lt)
              clear KT_5
              have B_6 := Lib.hid (B_5.out.trans (b6.mono B_5.out.size))
              clear B_5
              clear b6
              clear HV
              cases q
              · go_wp2
                go_ret
                exact ⟨rfl, B_6.out⟩
              · go_wp2
                go_ret
                exact ⟨rfl, B_6.out⟩
            · have h128' : decide ((g.rows.length : Int) ≤ 128) = false := decide_eq_false h128
              obtain rfl : q = false := by rw [hv, decide_eq_false (show ¬ g.rows.length ≤ 128 by omega)]; rfl
              clear hv
              have lA_5 : w3.heap.size < w5.heap.size := KA_5.out.lt
              have cA_0_5 : w5.cell? ⟨w3.heap.size, 0, none⟩ = some (.int .i64 0) := KA_5.out.cell 0
              have cA_1_5 : w5.cell? ⟨w3.heap.size, 1, none⟩ = some (.int .i64 8) := KA_5.out.cell 1
              have lT_5 : w.heap.size < w5.heap.size := KT_5.out.lt
              have cT_0_5 : w5.cell? ⟨w.heap.size, 0, none⟩ = some (.string g.name) := KT_5.out.cell 0
              have cT_1_5 : w5.cell? ⟨w.heap.size, 1, none⟩ = some (.int .i64 g.op) := KT_5.out.cell 1
              have cT_2_5 : w5.cell? ⟨w.heap.size, 2, none⟩ = some (.slice pi g.ins.length qi) := KT_5.out.cell 2
              have cT_3_5 : w5.cell? ⟨w.heap.size, 3, none⟩ = some (.slice pr g.rows.length qr) := KT_5.out.cell 3
              have cT_4_5 : w5.cell? ⟨w.heap.size, 4, none⟩ = some (.bool g.off) := KT_5.out.cell 4
              go_wp2
              go_ret
              exact ⟨rfl, B_5.out⟩
        · have hv := gate_other IO.out h10
          rw [HQ.out, LZ.out, HHZ.out] at hv
          clear HQ
          have n10 : (g.op != 10) = true := by rw [bne_iff_ne]; exact h10
          clear h10 LZ HHZ
          by_cases hl : (g.ins.length : Int) < lz
          · obtain rfl : q = false := by rw [hv, decide_eq_false (show ¬ lz ≤ (g.ins.length : Int) by omega)]; rfl
            clear hv
            have lA_5 : w3.heap.size < w5.heap.size := KA_5.out.lt
            have cA_0_5 : w5.cell? ⟨w3.heap.size, 0, none⟩ = some (.int .i64 lz) := KA_5.out.cell 0
            have cA_1_5 : w5.cell? ⟨w3.heap.size, 1, none⟩ = some (.int .i64 hz') := KA_5.out.cell 1
            have lT_5 : w.heap.size < w5.heap.size := KT_5.out.lt
            have cT_0_5 : w5.cell? ⟨w.heap.size, 0, none⟩ = some (.string g.name) := KT_5.out.cell 0
            have cT_1_5 : w5.cell? ⟨w.heap.size, 1, none⟩ = some (.int .i64 g.op) := KT_5.out.cell 1
            have cT_2_5 : w5.cell? ⟨w.heap.size, 2, none⟩ = some (.slice pi g.ins.length qi) := KT_5.out.cell 2
            have cT_3_5 : w5.cell? ⟨w.heap.size, 3, none⟩ = some (.slice pr g.rows.length qr) := KT_5.out.cell 3
            have cT_4_5 : w5.cell? ⟨w.heap.size, 4, none⟩ = some (.bool g.off) := KT_5.out.cell 4
            go_wp2
            go_ret
            exact ⟨rfl, B_5.out⟩
          · have hl' : decide ((g.ins.length : Int) < lz) = false := decide_eq_false hl
            rw [decide_eq_true (show lz ≤ (g.ins.length : Int) by omega), Bool.true_and] at hv
            by_cases hh : hz' < (g.ins.length : Int)
            · obtain rfl : q = false := by rw [hv, decide_eq_false (show ¬ (g.ins.length : Int) ≤ hz' by omega)]; rfl
              clear hv
              have lA_5 : w3.heap.size < w5.heap.size := KA_5.out.lt
              have cA_0_5 : w5.cell? ⟨w3.heap.size, 0, none⟩ = some (.int .i64 lz) := KA_5.out.cell 0
              have cA_1_5 : w5.cell? ⟨w3.heap.size, 1, none⟩ = some (.int .i64 hz') := KA_5.out.cell 1
              have lT_5 : w.heap.size < w5.heap.size := KT_5.out.lt
              have cT_0_5 : w5.cell? ⟨w.heap.size, 0, none⟩ = some (.string g.name) := KT_5.out.cell 0
              have cT_1_5 : w5.cell? ⟨w.heap.size, 1, none⟩ = some (.int .i64 g.op) := KT_5.out.cell 1
              have cT_2_5 : w5.cell? ⟨w.heap.size, 2, none⟩ = some (.slice pi g.ins.length qi) := KT_5.out.cell 2
              have cT_3_5 : w5.cell? ⟨w.heap.size, 3, none⟩ = some (.slice pr g.rows.length qr) := KT_5.out.cell 3
              have cT_4_5 : w5.cell? ⟨w.heap.size, 4, none⟩ = some (.bool g.off) := KT_5.out.cell 4
              go_wp2
              go_ret
              exact ⟨rfl, B_5.out⟩
            · have hh' : decide (hz' < (g.ins.length : Int)) = false := decide_eq_false hh
              rw [decide_eq_true (show (g.ins.length : Int) ≤ hz' by omega), Bool.true_and] at hv
              by_cases hr0 : g.rows.length = 0
              · have hr1 : ((g.rows.length : Int) == 0) = true := by rw [hr0]; rfl
                obtain ⟨of, hof⟩ : ∃ b, g.off = b := ⟨_, rfl⟩
                rw [List.eq_nil_of_length_eq_zero hr0, hof] at hv
                change q = (true && !of) at hv
                rw [Bool.true_and] at hv
                subst hv
                have HL0 := Lib.hid hr0
                clear hr0
                have lA_5 : w3.heap.size < w5.heap.size := KA_5.out.lt
                have cA_0_5 : w5.cell? ⟨w3.heap.size, 0, none⟩ = some (.int .i64 lz) := KA_5.out.cell 0
                have cA_1_5 : w5.cell? ⟨w3.heap.size, 1, none⟩ = some (.int .i64 hz') := KA_5.out.cell 1
                have lT_5 : w.heap.size < w5.heap.size := KT_5.out.lt
                have cT_0_5 : w5.cell? ⟨w.heap.size, 0, none⟩ = some (.string g.name) := KT_5.out.cell 0
                have cT_1_5 : w5.cell? ⟨w.heap.size, 1, none⟩ = some (.int .i64 g.op) := KT_5.out.cell 1
                have cT_2_5 : w5.cell? ⟨w.heap.size, 2, none⟩ = some (.slice pi g.ins.length qi) := KT_5.out.cell 2
                have cT_3_5 : w5.cell? ⟨w.heap.size, 3, none⟩ = some (.slice pr g.rows.length qr) := KT_5.out.cell 3
                have cT_4_5 : w5.cell? ⟨w.heap.size, 4, none⟩ = some (.bool g.off) := KT_5.out.cell 4
                rw [hof] at cT_4_5
                clear hof
                cases of
                · go_wp2
                  go_ret
                  exact ⟨rfl, B_5.out⟩
                · go_wp2
                  go_ret
                  exact ⟨rfl, B_5.out⟩
              · have hr1 : ((g.rows.length : Int) == 0) = false := by rw [beq_eq_false_iff_ne]; omega
                have hrn : ¬ g.rows = [] := fun h => hr0 (by rw [h]; rfl)
                obtain rfl : q = false := by rw [hv, show g.rows.isEmpty = false from by rw [Bool.eq_false_iff]; intro h; exact hrn (List.isEmpty_iff.1 h)]; rfl
                clear hv hr0
                have lA_5 : w3.heap.size < w5.heap.size := KA_5.out.lt
                have cA_0_5 : w5.cell? ⟨w3.heap.size, 0, none⟩ = some (.int .i64 lz) := KA_5.out.cell 0
                have cA_1_5 : w5.cell? ⟨w3.heap.size, 1, none⟩ = some (.int .i64 hz') := KA_5.out.cell 1
                have lT_5 : w.heap.size < w5.heap.size := KT_5.out.lt
                have cT_0_5 : w5.cell? ⟨w.heap.size, 0, none⟩ = some (.string g.name) := KT_5.out.cell 0
                have cT_1_5 : w5.cell? ⟨w.heap.size, 1, none⟩ = some (.int .i64 g.op) := KT_5.out.cell 1
                have cT_2_5 : w5.cell? ⟨w.heap.size, 2, none⟩ = some (.slice pi g.ins.length qi) := KT_5.out.cell 2
                have cT_3_5 : w5.cell? ⟨w.heap.size, 3, none⟩ = some (.slice pr g.rows.length qr) := KT_5.out.cell 3
                have cT_4_5 : w5.cell? ⟨w.heap.size, 4, none⟩ = some (.bool g.off) := KT_5.out.cell 4
                go_wp2
                go_ret
                exact ⟨rfl, B_5.out⟩
  · go_simp
    have gB := RB0.out.size
    have a2 : Below w2.heap.size w2 (w2.alloc (.cells #[.int .i64 0, .int .i64 0] 73)) := ((Below.refl w2.heap.size w2).alloc (by first | exact Nat.le_refl _ | (simp only [World.size_alloc]; omega)) (.cells #[.int .i64 0, .int .i64 0] 73))
    have A_new2 := (Blk.new w2 #[.int .i64 0, .int .i64 0] 73)
    have KA_02 := Lib.hid A_new2
    clear A_new2
    have R_3 := Lib.hid (R_2.out.below a2)
    clear R_2
    have RB_3 := Lib.hid (RB0.out.trans (a2.mono RB0.out.size))
    clear RB0
    have KT_3 := Lib.hid (KT_2.out.below a2 KT_2.out.lt)
    clear KT_2
    have B_3 := Lib.hid (B_2.out.trans (a2.mono B_2.out.size))
    clear B_2
    clear a2
    generalize (w2.alloc (.cells #[.int .i64 0, .int .i64 0] 73)) = w3 at R_3 RB_3 KT_3 KA_02 B_3 ⊢
    try go_simp
    refine hK.out _ _ (HS2.out _ RB_3.out) (fun hHeld => ?_)
    clear hK
    try simp only [Act.put, List.setIfInBounds_toArray, List.set_cons_zero, List.set_cons_succ]
    try (first | (refine take_yes (i := 1) (v := ?_) rfl (by kernel_rfl) (by decide +kernel) (by decide +kernel) (fun _ _ _ h => h) (by rfl) ?_ (by assumption) ?_; rotate_left; intro w hSw; (try dsimp only at hSw); go_simp; with_reducible rfl; simp only [Act.put, List.setIfInBounds_toArray, List.set_cons_zero, List.set_cons_succ]) | (refine take_no (i := 1) rfl (by kernel_rfl) (by decide +kernel) (by decide +kernel) (fun _ _ _ h => h) (by rfl) (by assumption) ?_; simp only [Act.put, List.setIfInBounds_toArray, List.set_cons_zero, List.set_cons_succ]))
    try (first | (refine take_yes (i := 2) (v := ?_) rfl (by kernel_rfl) (by decide +kernel) (by decide +kernel) (fun _ _ _ h => h) (by rfl) ?_ (by assumption) ?_; rotate_left; intro w hSw; (try dsimp only at hSw); go_simp; with_reducible rfl; simp only [Act.put, List.setIfInBounds_toArray, List.set_cons_zero, List.set_cons_succ]) | (refine take_no (i := 2) rfl (by kernel_rfl) (by decide +kernel) (by decide +kernel) (fun _ _ _ h => h) (by rfl) (by assumption) ?_; simp only [Act.put, List.setIfInBounds_toArray, List.set_cons_zero, List.set_cons_succ]))
    try (first | (refine take_yes (i := 3) (v := ?_) rfl (by kernel_rfl) (by decide +kernel) (by decide +kernel) (fun _ _ _ h => h) (by rfl) ?_ (by assumption) ?_; rotate_left; intro w hSw; (try dsimp only at hSw); go_simp; with_reducible rfl; simp only [Act.put, List.setIfInBounds_toArray, List.set_cons_zero, List.set_cons_succ]) | (refine take_no (i := 3) rfl (by kernel_rfl) (by decide +kernel) (by decide +kernel) (fun _ _ _ h => h) (by rfl) (by assumption) ?_; simp only [Act.put, List.setIfInBounds_toArray, List.set_cons_zero, List.set_cons_succ]))
    try (first | (refine take_yes (i := 4) (v := ?_) rfl (by kernel_rfl) (by decide +kernel) (by decide +kernel) (fun _ _ _ h => h) (by rfl) ?_ (by assumption) ?_; rotate_left; intro w hSw; (try dsimp only at hSw); go_simp; with_reducible rfl; simp only [Act.put, List.setIfInBounds_toArray, List.set_cons_zero, List.set_cons_succ]) | (refine take_no (i := 4) rfl (by kernel_rfl) (by decide +kernel) (by decide +kernel) (fun _ _ _ h => h) (by rfl) (by assumption) ?_; simp only [Act.put, List.setIfInBounds_toArray, List.set_cons_zero, List.set_cons_succ]))
    try (first | (refine take_yes (i := 5) (v := ?_) rfl (by kernel_rfl) (by decide +kernel) (by decide +kernel) (fun _ _ _ h => h) (by rfl) ?_ (by assumption) ?_; rotate_left; intro w hSw; (try dsimp only at hSw); go_simp; with_reducible rfl; simp only [Act.put, List.setIfInBounds_toArray, List.set_cons_zero, List.set_cons_succ]) | (refine take_no (i := 5) rfl (by kernel_rfl) (by decide +kernel) (by decide +kernel) (fun _ _ _ h => h) (by rfl) (by assumption) ?_; simp only [Act.put, List.setIfInBounds_toArray, List.set_cons_zero, List.set_cons_succ]))
    try (first | (refine take_yes (i := 6) (v := ?_) rfl (by kernel_rfl) (by decide +kernel) (by decide +kernel) (fun _ _ _ h => h) (by rfl) ?_ (by assumption) ?_; rotate_left; intro w hSw; (try dsimp only at hSw); go_simp; with_reducible rfl; simp only [Act.put, List.setIfInBounds_toArray, List.set_cons_zero, List.set_cons_succ]) | (refine take_no (i := 6) rfl (by kernel_rfl) (by decide +kernel) (by decide +kernel) (fun _ _ _ h => h) (by rfl) (by assumption) ?_; simp only [Act.put, List.setIfInBounds_toArray, List.set_cons_zero, List.set_cons_succ]))
    try (first | (refine take_yes (i := 9) (v := ?_) rfl (by kernel_rfl) (by decide +kernel) (by decide +kernel) (fun _ _ _ h => h) (by rfl) ?_ (by assumption) ?_; rotate_left; intro w hSw; (try dsimp only at hSw); go_simp; with_reducible rfl; simp only [Act.put, List.setIfInBounds_toArray, List.set_cons_zero, List.set_cons_succ]) | (refine take_no (i := 9) rfl (by kernel_rfl) (by decide +kernel) (by decide +kernel) (fun _ _ _ h => h) (by rfl) (by assumption) ?_; simp only [Act.put, List.setIfInBounds_toArray, List.set_cons_zero, List.set_cons_succ]))
    refine take_this (i := 0) (by decide +kernel) rfl (by rfl) (fun K hK => ?_)
    go_simp
    have gK := KA_02.out.lt
    go_at_call 64
    refine (arity_any _).mono ?_
    rintro e w4 ⟨mb, rfl, hm, b4⟩
    have R_4 := Lib.hid (R_3.out.below b4)
    clear R_3
    have RB_4 := Lib.hid (RB_3.out.trans (b4.mono RB_3.out.size))
    clear RB_3
    have KT_4 := Lib.hid (KT_3.out.below b4 KT_3.out.lt)
    clear KT_3
    have KA_4 := Lib.hid (KA_02.out.below b4 KA_02.out.lt)
    clear KA_02
    have B_4 := Lib.hid (B_3.out.trans (b4.mono B_3.out.size))
    clear B_3
    clear b4
    have M0 := Lib.hid hm
    clear hm
    clear gK
    try go_simp
    refine hK.out _ _ (HS2.out _ RB_4.out) (fun hHeld => ?_)
    clear hK
    try simp only [Act.put, List.setIfInBounds_toArray, List.set_cons_zero, List.set_cons_succ]
    try (first | (refine take_yes (i := 1) (v := ?_) rfl (by kernel_rfl) (by decide +kernel) (by decide +kernel) (fun _ _ _ h => h) (by rfl) ?_ (by assumption) ?_; rotate_left; intro w hSw; (try dsimp only at hSw); go_simp; with_reducible rfl; simp only [Act.put, List.setIfInBounds_toArray, List.set_cons_zero, List.set_cons_succ]) | (refine take_no (i := 1) rfl (by kernel_rfl) (by decide +kernel) (by decide +kernel) (fun _ _ _ h => h) (by rfl) (by assumption) ?_; simp only [Act.put, List.setIfInBounds_toArray, List.set_cons_zero, List.set_cons_succ]))
    try (first | (refine take_yes (i := 2) (v := ?_) rfl (by kernel_rfl) (by decide +kernel) (by decide +kernel) (fun _ _ _ h => h) (by rfl) ?_ (by assumption) ?_; rotate_left; intro w hSw; (try dsimp only at hSw); go_simp; with_reducible rfl; simp only [Act.put, List.setIfInBounds_toArray, List.set_cons_zero, List.set_cons_succ]) | (refine take_no (i := 2) rfl (by kernel_rfl) (by decide +kernel) (by decide +kernel) (fun _ _ _ h => h) (by rfl) (by assumption) ?_; simp only [Act.put, List.setIfInBounds_toArray, List.set_cons_zero, List.set_cons_succ]))
    try (first | (refine take_yes (i := 3) (v := ?_) rfl (by kernel_rfl) (by decide +kernel) (by decide +kernel) (fun _ _ _ h => h) (by rfl) ?_ (by assumption) ?_; rotate_left; intro w hSw; (try dsimp only at hSw); go_simp; with_reducible rfl; simp only [Act.put, List.setIfInBounds_toArray, List.set_cons_zero, List.set_cons_succ]) | (refine take_no (i := 3) rfl (by kernel_rfl) (by decide +kernel) (by decide +kernel) (fun _ _ _ h => h) (by rfl) (by assumption) ?_; simp only [Act.put, List.setIfInBounds_toArray, List.set_cons_zero, List.set_cons_succ]))
    try (first | (refine take_yes (i := 4) (v := ?_) rfl (by kernel_rfl) (by decide +kernel) (by decide +kernel) (fun _ _ _ h => h) (by rfl) ?_ (by assumption) ?_; rotate_left; intro w hSw; (try dsimp only at hSw); go_simp; with_reducible rfl; simp only [Act.put, List.setIfInBounds_toArray, List.set_cons_zero, List.set_cons_succ]) | (refine take_no (i := 4) rfl (by kernel_rfl) (by decide +kernel) (by decide +kernel) (fun _ _ _ h => h) (by rfl) (by assumption) ?_; simp only [Act.put, List.setIfInBounds_toArray, List.set_cons_zero, List.set_cons_succ]))
    try (first | (refine take_yes (i := 5) (v := ?_) rfl (by kernel_rfl) (by decide +kernel) (by decide +kernel) (fun _ _ _ h => h) (by rfl) ?_ (by assumption) ?_; rotate_left; intro w hSw; (try dsimp only at hSw); go_simp; with_reducible rfl; simp only [Act.put, List.setIfInBounds_toArray, List.set_cons_zero, List.set_cons_succ]) | (refine take_no (i := 5) rfl (by kernel_rfl) (by decide +kernel) (by decide +kernel) (fun _ _ _ h => h) (by rfl) (by assumption) ?_; simp only [Act.put, List.setIfInBounds_toArray, List.set_cons_zero, List.set_cons_succ]))
    try (first | (refine take_yes (i := 6) (v := ?_) rfl (by kernel_rfl) (by decide +kernel) (by decide +kernel) (fun _ _ _ h => h) (by rfl) ?_ (by assumption) ?_; rotate_left; intro w hSw; (try dsimp only at hSw); go_simp; with_reducible rfl; simp only [Act.put, List.setIfInBounds_toArray, List.set_cons_zero, List.set_cons_succ]) | (refine take_no (i := 6) rfl (by kernel_rfl) (by decide +kernel) (by decide +kernel) (fun _ _ _ h => h) (by rfl) (by assumption) ?_; simp only [Act.put, List.setIfInBounds_toArray, List.set_cons_zero, List.set_cons_succ]))
    try (first | (refine take_yes (i := 9) (v := ?_) rfl (by kernel_rfl) (by decide +kernel) (by decide +kernel) (fun _ _ _ h => h) (by rfl) ?_ (by assumption) ?_; rotate_left; intro w hSw; (try dsimp only at hSw); go_simp; with_reducible rfl; simp only [Act.put, List.setIfInBounds_toArray, List.set_cons_zero, List.set_cons_succ]) | (refine take_no (i := 9) rfl (by kernel_rfl) (by decide +kernel) (by decide +kernel) (fun _ _ _ h => h) (by rfl) (by assumption) ?_; simp only [Act.put, List.setIfInBounds_toArray, List.set_cons_zero, List.set_cons_succ]))
    refine take_this (i := 3) (by decide +kernel) rfl (by rfl) (fun K hK => ?_)
    have hlk := arity_look M0.out g.op HW.out
    rw [IO.out, LZ.out, HHZ.out] at hlk
    go_simp
    clear hlk
    try go_simp
    refine hK.out _ _ (HS2.out _ RB_4.out) (fun hHeld => ?_)
    clear hK
    try simp only [Act.put, List.setIfInBounds_toArray, List.set_cons_zero, List.set_cons_succ]
    try (first | (refine take_yes (i := 1) (v := ?_) rfl (by kernel_rfl) (by decide +kernel) (by decide +kernel) (fun _ _ _ h => h) (by rfl) ?_ (by assumption) ?_; rotate_left; intro w hSw; (try dsimp only at hSw); go_simp; with_reducible rfl; simp only [Act.put, List.setIfInBounds_toArray, List.set_cons_zero, List.set_cons_succ]) | (refine take_no (i := 1) rfl (by kernel_rfl) (by decide +kernel) (by decide +kernel) (fun _ _ _ h => h) (by rfl) (by assumption) ?_; simp only [Act.put, List.setIfInBounds_toArray, List.set_cons_zero, List.set_cons_succ]))
    try (first | (refine take_yes (i := 2) (v := ?_) rfl (by kernel_rfl) (by decide +kernel) (by decide +kernel) (fun _ _ _ h => h) (by rfl) ?_ (by assumption) ?_; rotate_left; intro w hSw; (try dsimp only at hSw); go_simp; with_reducible rfl; simp only [Act.put, List.setIfInBounds_toArray, List.set_cons_zero, List.set_cons_succ]) | (refine take_no (i := 2) rfl (by kernel_rfl) (by decide +kernel) (by decide +kernel) (fun _ _ _ h => h) (by rfl) (by assumption) ?_; simp only [Act.put, List.setIfInBounds_toArray, List.set_cons_zero, List.set_cons_succ]))
    try (first | (refine take_yes (i := 3) (v := ?_) rfl (by kernel_rfl) (by decide +kernel) (by decide +kernel) (fun _ _ _ h => h) (by rfl) ?_ (by assumption) ?_; rotate_left; intro w hSw; (try dsimp only at hSw); go_simp; with_reducible rfl; simp only [Act.put, List.setIfInBounds_toArray, List.set_cons_zero, List.set_cons_succ]) | (refine take_no (i := 3) rfl (by kernel_rfl) (by decide +kernel) (by decide +kernel) (fun _ _ _ h => h) (by rfl) (by assumption) ?_; simp only [Act.put, List.setIfInBounds_toArray, List.set_cons_zero, List.set_cons_succ]))
    try (first | (refine take_yes (i := 4) (v := ?_) rfl (by kernel_rfl) (by decide +kernel) (by decide +kernel) (fun _ _ _ h => h) (by rfl) ?_ (by assumption) ?_; rotate_left; intro w hSw; (try dsimp only at hSw); go_simp; with_reducible rfl; simp only [Act.put, List.setIfInBounds_toArray, List.set_cons_zero, List.set_cons_succ]) | (refine take_no (i := 4) rfl (by kernel_rfl) (by decide +kernel) (by decide +kernel) (fun _ _ _ h => h) (by rfl) (by assumption) ?_; simp only [Act.put, List.setIfInBounds_toArray, List.set_cons_zero, List.set_cons_succ]))
    try (first | (refine take_yes (i := 5) (v := ?_) rfl (by kernel_rfl) (by decide +kernel) (by decide +kernel) (fun _ _ _ h => h) (by rfl) ?_ (by assumption) ?_; rotate_left; intro w hSw; (try dsimp only at hSw); go_simp; with_reducible rfl; simp only [Act.put, List.setIfInBounds_toArray, List.set_cons_zero, List.set_cons_succ]) | (refine take_no (i := 5) rfl (by kernel_rfl) (by decide +kernel) (by decide +kernel) (fun _ _ _ h => h) (by rfl) (by assumption) ?_; simp only [Act.put, List.setIfInBounds_toArray, List.set_cons_zero, List.set_cons_succ]))
    try (first | (refine take_yes (i := 6) (v := ?_) rfl (by kernel_rfl) (by decide +kernel) (by decide +kernel) (fun _ _ _ h => h) (by rfl) ?_ (by assumption) ?_; rotate_left; intro w hSw; (try dsimp only at hSw); go_simp; with_reducible rfl; simp only [Act.put, List.setIfInBounds_toArray, List.set_cons_zero, List.set_cons_succ]) | (refine take_no (i := 6) rfl (by kernel_rfl) (by decide +kernel) (by decide +kernel) (fun _ _ _ h => h) (by rfl) (by assumption) ?_; simp only [Act.put, List.setIfInBounds_toArray, List.set_cons_zero, List.set_cons_succ]))
    try (first | (refine take_yes (i := 9) (v := ?_) rfl (by kernel_rfl) (by decide +kernel) (by decide +kernel) (fun _ _ _ h => h) (by rfl) ?_ (by assumption) ?_; rotate_left; intro w hSw; (try dsimp only at hSw); go_simp; with_reducible rfl; simp only [Act.put, List.setIfInBounds_toArray, List.set_cons_zero, List.set_cons_succ]) | (refine take_no (i := 9) rfl (by kernel_rfl) (by decide +kernel) (by decide +kernel) (fun _ _ _ h => h) (by rfl) (by assumption) ?_; simp only [Act.put, List.setIfInBounds_toArray, List.set_cons_zero, List.set_cons_succ]))
    refine take_this (i := 8) (by decide +kernel) rfl (by rfl) (fun K hK => ?_)
    have f0 := KA_4.out.frozen 0
    have e0 : w4.cell? ⟨w2.heap.size, 0, none⟩ = some (.int .i64 0) := KA_4.out.cell 0
    have f1 := KA_4.out.frozen 1
    have e1 : w4.cell? ⟨w2.heap.size, 1, none⟩ = some (.int .i64 0) := KA_4.out.cell 1
    go_simp
    clear f0 e0 f1 e1
    have RB_5 := Lib.hid ((RB_4.out.setCell (p := ⟨w2.heap.size, 0, none⟩) (by show w1.heap.size ≤ w2.heap.size; omega) (.int .i64 lz)).setCell (p := ⟨w2.heap.size, 1, none⟩) (by show w1.heap.size ≤ w2.heap.size; omega) (.int .i64 hz'))
    have KA_5 := Lib.hid ((KA_4.out.set 0 (.int .i64 lz)).set 1 (.int .i64 hz'))
    have R_5 := Lib.hid (R_o2.out.below RB_5.out)
    have KT_5 := Lib.hid (KT_o2.out.below RB_5.out KT_o2.out.lt)
    have B_5 := Lib.hid (B_o2.out.trans (RB_5.out.mono B_o2.out.size))
    clear R_4 RB_4 M0 KT_4 KA_4 B_4
    clear R_o2 KT_o2 B_o2 gB
    generalize ((w4.setCell ⟨w2.heap.size, 0, none⟩ (.int .i64 lz)).setCell ⟨w2.heap.size, 1, none⟩ (.int .i64 hz')) = w5 at RB_5 R_5 KA_5 KT_5 B_5 ⊢
    try go_simp
    refine hK.out _ _ (HS2.out _ RB_5.out) (fun hHeld => ?_)
    clear hK
    try simp only [Act.put, List.setIfInBounds_toArray, List.set_cons_zero, List.set_cons_succ]
    try (first | (refine take_yes (i := 9) (v := ?_) rfl (by kernel_rfl) (by decide +kernel) (by decide +kernel) (fun _ _ _ h => h) (by rfl) ?_ (by assumption) ?_; rotate_left; intro w hSw; (try dsimp only at hSw); go_simp; with_reducible rfl; simp only [Act.put, List.setIfInBounds_toArray, List.set_cons_zero, List.set_cons_succ]) | (refine take_no (i := 9) rfl (by kernel_rfl) (by decide +kernel) (by decide +kernel) (fun _ _ _ h => h) (by rfl) (by assumption) ?_; simp only [Act.put, List.setIfInBounds_toArray, List.set_cons_zero, List.set_cons_succ]))
    refine wpAnyH_done (by decide +kernel) ?_ _
    clear hHeld HS2 RB_5
    cases io
    · obtain rfl : q = false := by rw [← HQ.out]; exact gate_out IO.out
      clear HQ
      have lA_5 : w2.heap.size < w5.heap.size := KA_5.out.lt
      have cA_0_5 : w5.cell? ⟨w2.heap.size, 0, none⟩ = some (.int .i64 lz) := KA_5.out.cell 0
      have cA_1_5 : w5.cell? ⟨w2.heap.size, 1, none⟩ = some (.int .i64 hz') := KA_5.out.cell 1
      have lT_5 : w.heap.size < w5.heap.size := KT_5.out.lt
      have cT_0_5 : w5.cell? ⟨w.heap.size, 0, none⟩ = some (.string g.name) := KT_5.out.cell 0
      have cT_1_5 : w5.cell? ⟨w.heap.size, 1, none⟩ = some (.int .i64 g.op) := KT_5.out.cell 1
      have cT_2_5 : w5.cell? ⟨w.heap.size, 2, none⟩ = some (.slice pi g.ins.length qi) := KT_5.out.cell 2
      have cT_3_5 : w5.cell? ⟨w.heap.size, 3, none⟩ = some (.slice pr g.rows.length qr) := KT_5.out.cell 3
      have cT_4_5 : w5.cell? ⟨w.heap.size, 4, none⟩ = some (.bool g.off) := KT_5.out.cell 4
      go_wp2
      go_ret
      exact ⟨rfl, B_5.out⟩
    · by_cases h10 : g.op = 10
      · obtain rfl : lz = 0 := by rw [← LZ.out, h10]; rfl
        obtain rfl : hz' = 8 := by rw [← HHZ.out, h10]; rfl
        have hv := gate_cover h10
        rw [HQ.out] at hv
        clear HQ
        have n10 : (g.op != 10) = false := by rw [h10]; rfl
        clear h10
        have hlo : decide ((g.ins.length : Int) < 0) = false := decide_eq_false (by omega)
        by_cases h8 : (8 : Int) < (g.ins.length : Int)
        · obtain rfl : q = false := by rw [hv, decide_eq_false (show ¬ g.ins.length ≤ 8 by omega)]; rfl
          clear hv
          have lA_5 : w2.heap.size < w5.heap.size := KA_5.out.lt
          have cA_0_5 : w5.cell? ⟨w2.heap.size, 0, none⟩ = some (.int .i64 0) := KA_5.out.cell 0
          have cA_1_5 : w5.cell? ⟨w2.heap.size, 1, none⟩ = some (.int .i64 8) := KA_5.out.cell 1
          have lT_5 : w.heap.size < w5.heap.size := KT_5.out.lt
          have cT_0_5 : w5.cell? ⟨w.heap.size, 0, none⟩ = some (.string g.name) := KT_5.out.cell 0
          have cT_1_5 : w5.cell? ⟨w.heap.size, 1, none⟩ = some (.int .i64 g.op) := KT_5.out.cell 1
          have cT_2_5 : w5.cell? ⟨w.heap.size, 2, none⟩ = some (.slice pi g.ins.length qi) := KT_5.out.cell 2
          have cT_3_5 : w5.cell? ⟨w.heap.size, 3, none⟩ = some (.slice pr g.rows.length qr) := KT_5.out.cell 3
          have cT_4_5 : w5.cell? ⟨w.heap.size, 4, none⟩ = some (.bool g.off) := KT_5.out.cell 4
          go_wp2
          go_ret
          exact ⟨rfl, B_5.out⟩
        · have h8' : decide ((8 : Int) < (g.ins.length : Int)) = false := decide_eq_false h8
          rw [decide_eq_true (show g.ins.length ≤ 8 by omega), Bool.true_and] at hv
          by_cases h128 : (g.rows.length : Int) ≤ 128
          · rw [decide_eq_true (show g.rows.length ≤ 128 by omega), Bool.true_and] at hv
            have HV := Lib.hid hv.symm
            clear hv
            have lA_5 : w2.heap.size < w5.heap.size := KA_5.out.lt
            have cA_0_5 : w5.cell? ⟨w2.heap.size, 0, none⟩ = some (.int .i64 0) := KA_5.out.cell 0
            have cA_1_5 : w5.cell? ⟨w2.heap.size, 1, none⟩ = some (.int .i64 8) := KA_5.out.cell 1
            have lT_5 : w.heap.size < w5.heap.size := KT_5.out.lt
            have cT_0_5 : w5.cell? ⟨w.heap.size, 0, none⟩ = some (.string g.name) := KT_5.out.cell 0
            have cT_1_5 : w5.cell? ⟨w.heap.size, 1, none⟩ = some (.int .i64 g.op) := KT_5.out.cell 1
            have cT_2_5 : w5.cell? ⟨w.heap.size, 2, none⟩ = some (.slice pi g.ins.length qi) := KT_5.out.cell 2
            have cT_3_5 : w5.cell? ⟨w.heap.size, 3, none⟩ = some (.slice pr g.rows.length qr) := KT_5.out.cell 3
            have cT_4_5 : w5.cell? ⟨w.heap.size, 4, none⟩ = some (.bool g.off) := KT_5.out.cell 4
            go_wp2_with fail
            clear lA_5 cA_0_5 cA_1_5 lT_5 cT_0_5 cT_1_5 cT_2_5 cT_3_5 cT_4_5
            refine (cont_any g.rows _ _ _ _ _ _ _ g.ins.length qi q _ KT_5.out l2 HZ.out R_5.out.lst HV.out).mono ?_
            rintro e w6 ⟨rfl, b6⟩
            have R_6 := Lib.hid (R_5.out.below b6)
            clear R_5
            have KA_6 := Lib.hid (KA_5.out.below b6 KA_5.out.lt)
            clear KA_5
            have KT_6 := Lib.hid (KT_5.out.below b6 KT_5.out.lt)
            clear KT_5
            have B_6 := Lib.hid (B_5.out.trans (b6.mono B_5.out.size))
            clear B_5
            clear b6
            clear HV
            cases q
            · go_wp2
              go_ret
              exact ⟨rfl, B_6.out⟩
            · go_wp2
              go_ret
              exact ⟨rfl, B_6.out⟩
          · have h128' : decide ((g.rows.length : Int) ≤ 128) = false := decide_eq_false h128
            obtain rfl : q = false := by rw [hv, decide_eq_false (show ¬ g.rows.length ≤ 128 by omega)]; rfl
            clear hv
            have lA_5 : w2.heap.size < w5.heap.size := KA_5.out.lt
            have cA_0_5 : w5.cell? ⟨w2.heap.size, 0, none⟩ = some (.int .i64 0) := KA_5.out.cell 0
            have cA_1_5 : w5.cell? ⟨w2.heap.size, 1, none⟩ = some (.int .i64 8) := KA_5.out.cell 1
            have lT_5 : w.heap.size < w5.heap.size := KT_5.out.lt
            have cT_0_5 : w5.cell? ⟨w.heap.size, 0, none⟩ = some (.string g.name) := KT_5.out.cell 0
            have cT_1_5 : w5.cell? ⟨w.heap.size, 1, none⟩ = some (.int .i64 g.op) := KT_5.out.cell 1
            have cT_2_5 : w5.cell? ⟨w.heap.size, 2, none⟩ = some (.slice pi g.ins.length qi) := KT_5.out.cell 2
            have cT_3_5 : w5.cell? ⟨w.heap.size, 3, none⟩ = some (.slice pr g.rows.length qr) := KT_5.out.cell 3
            have cT_4_5 : w5.cell? ⟨w.heap.size, 4, none⟩ = some (.bool g.off) := KT_5.out.cell 4
            go_wp2
            go_ret
            exact ⟨rfl, B_5.out⟩
      · have hv := gate_other IO.out h10
        rw [HQ.out, LZ.out, HHZ.out] at hv
        clear HQ
        have n10 : (g.op != 10) = true := by rw [bne_iff_ne]; exact h10
        clear h10 LZ HHZ
        by_cases hl : (g.ins.length : Int) < lz
        · obtain rfl : q = false := by rw [hv, decide_eq_false (show ¬ lz ≤ (g.ins.length : Int) by omega)]; rfl
          clear hv
          have lA_5 : w2.heap.size < w5.heap.size := KA_5.out.lt
          have cA_0_5 : w5.cell? ⟨w2.heap.size, 0, none⟩ = some (.int .i64 lz) := KA_5.out.cell 0
          have cA_1_5 : w5.cell? ⟨w2.heap.size, 1, none⟩ = some (.int .i64 hz') := KA_5.out.cell 1
          have lT_5 : w.heap.size < w5.heap.size := KT_5.out.lt
          have cT_0_5 : w5.cell? ⟨w.heap.size, 0, none⟩ = some (.string g.name) := KT_5.out.cell 0
          have cT_1_5 : w5.cell? ⟨w.heap.size, 1, none⟩ = some (.int .i64 g.op) := KT_5.out.cell 1
          have cT_2_5 : w5.cell? ⟨w.heap.size, 2, none⟩ = some (.slice pi g.ins.length qi) := KT_5.out.cell 2
          have cT_3_5 : w5.cell? ⟨w.heap.size, 3, none⟩ = some (.slice pr g.rows.length qr) := KT_5.out.cell 3
          have cT_4_5 : w5.cell? ⟨w.heap.size, 4, none⟩ = some (.bool g.off) := KT_5.out.cell 4
          go_wp2
          go_ret
          exact ⟨rfl, B_5.out⟩
        · have hl' : decide ((g.ins.length : Int) < lz) = false := decide_eq_false hl
          rw [decide_eq_true (show lz ≤ (g.ins.length : Int) by omega), Bool.true_and] at hv
          by_cases hh : hz' < (g.ins.length : Int)
          · obtain rfl : q = false := by rw [hv, decide_eq_false (show ¬ (g.ins.length : Int) ≤ hz' by omega)]; rfl
            clear hv
            have lA_5 : w2.heap.size < w5.heap.size := KA_5.out.lt
            have cA_0_5 : w5.cell? ⟨w2.heap.size, 0, none⟩ = some (.int .i64 lz) := KA_5.out.cell 0
            have cA_1_5 : w5.cell? ⟨w2.heap.size, 1, none⟩ = some (.int .i64 hz') := KA_5.out.cell 1
            have lT_5 : w.heap.size < w5.heap.size := KT_5.out.lt
            have cT_0_5 : w5.cell? ⟨w.heap.size, 0, none⟩ = some (.string g.name) := KT_5.out.cell 0
            have cT_1_5 : w5.cell? ⟨w.heap.size, 1, none⟩ = some (.int .i64 g.op) := KT_5.out.cell 1
            have cT_2_5 : w5.cell? ⟨w.heap.size, 2, none⟩ = some (.slice pi g.ins.length qi) := KT_5.out.cell 2
            have cT_3_5 : w5.cell? ⟨w.heap.size, 3, none⟩ = some (.slice pr g.rows.length qr) := KT_5.out.cell 3
            have cT_4_5 : w5.cell? ⟨w.heap.size, 4, none⟩ = some (.bool g.off) := KT_5.out.cell 4
            go_wp2
            go_ret
            exact ⟨rfl, B_5.out⟩
          · have hh' : decide (hz' < (g.ins.length : Int)) = false := decide_eq_false hh
            rw [decide_eq_true (show (g.ins.length : Int) ≤ hz' by omega), Bool.true_and] at hv
            by_cases hr0 : g.rows.length = 0
            · have hr1 : ((g.rows.length : Int) == 0) = true := by rw [hr0]; rfl
              obtain ⟨of, hof⟩ : ∃ b, g.off = b := ⟨_, rfl⟩
              rw [List.eq_nil_of_length_eq_zero hr0, hof] at hv
              change q = (true && !of) at hv
              rw [Bool.true_and] at hv
              subst hv
              have HL0 := Lib.hid hr0
              clear hr0
              have lA_5 : w2.heap.size < w5.heap.size := KA_5.out.lt
              have cA_0_5 : w5.cell? ⟨w2.heap.size, 0, none⟩ = some (.int .i64 lz) := KA_5.out.cell 0
              have cA_1_5 : w5.cell? ⟨w2.heap.size, 1, none⟩ = some (.int .i64 hz') := KA_5.out.cell 1
              have lT_5 : w.heap.size < w5.heap.size := KT_5.out.lt
              have cT_0_5 : w5.cell? ⟨w.heap.size, 0, none⟩ = some (.string g.name) := KT_5.out.cell 0
              have cT_1_5 : w5.cell? ⟨w.heap.size, 1, none⟩ = some (.int .i64 g.op) := KT_5.out.cell 1
              have cT_2_5 : w5.cell? ⟨w.heap.size, 2, none⟩ = some (.slice pi g.ins.length qi) := KT_5.out.cell 2
              have cT_3_5 : w5.cell? ⟨w.heap.size, 3, none⟩ = some (.slice pr g.rows.length qr) := KT_5.out.cell 3
              have cT_4_5 : w5.cell? ⟨w.heap.size, 4, none⟩ = some (.bool g.off) := KT_5.out.cell 4
              rw [hof] at cT_4_5
              clear hof
              cases of
              · go_wp2
                go_ret
                exact ⟨rfl, B_5.out⟩
              · go_wp2
                go_ret
                exact ⟨rfl, B_5.out⟩
            · have hr1 : ((g.rows.length : Int) == 0) = false := by rw [beq_eq_false_iff_ne]; omega
              have hrn : ¬ g.rows = [] := fun h => hr0 (by rw [h]; rfl)
              obtain rfl : q = false := by rw [hv, show g.rows.isEmpty = false from by rw [Bool.eq_false_iff]; intro h; exact hrn (List.isEmpty_iff.1 h)]; rfl
              clear hv hr0
              have lA_5 : w2.heap.size < w5.heap.size := KA_5.out.lt
              have cA_0_5 : w5.cell? ⟨w2.heap.size, 0, none⟩ = some (.int .i64 lz) := KA_5.out.cell 0
              have cA_1_5 : w5.cell? ⟨w2.heap.size, 1, none⟩ = some (.int .i64 hz') := KA_5.out.cell 1
              have lT_5 : w.heap.size < w5.heap.size := KT_5.out.lt
              have cT_0_5 : w5.cell? ⟨w.heap.size, 0, none⟩ = some (.string g.name) := KT_5.out.cell 0
              have cT_1_5 : w5.cell? ⟨w.heap.size, 1, none⟩ = some (.int .i64 g.op) := KT_5.out.cell 1
              have cT_2_5 : w5.cell? ⟨w.heap.size, 2, none⟩ = some (.slice pi g.ins.length qi) := KT_5.out.cell 2
              have cT_3_5 : w5.cell? ⟨w.heap.size, 3, none⟩ = some (.slice pr g.rows.length qr) := KT_5.out.cell 3
              have cT_4_5 : w5.cell? ⟨w.heap.size, 4, none⟩ = some (.bool g.off) := KT_5.out.cell 4
              go_wp2
              go_ret
              exact ⟨rfl, B_5.out⟩
end Go.Proofs.YtfkmolbcgnkfdaaDoor
