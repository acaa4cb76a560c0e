/- Lists of tokens in memory; the end of a line; the place where a text stands. -/
import Derived.Test.YtfljnhmpelpdaaaDoorTkKinds
import Derived.Lib.Index
import Derived.Maps.AppendAt
import Derived.Laws.AppendOwn
import Derived.LoopTactic
import Derived.RangeFuncBox
namespace Go.Proofs.YtfljnhmpelpdaaaDoor.Tok
set_option maxRecDepth 100000
open Go.RowKit

/-- a token: its kind, its text, its place -/
structure Tk where
  k : Nat
  t : ByteArray
  p : Nat
def tkc (x : Tk) : List Value := [.int .i64 (x.k : Int), .string x.t, .int .i64 (x.p : Int)]
def cs : List Tk → List Value
  | [] => []
  | x :: l => tkc x ++ cs l
theorem cs_append (a b : List Tk) : cs (a ++ b) = cs a ++ cs b := by
  induction a with
  | nil => rfl
  | cons x a ih => rw [List.cons_append, cs, cs, ih, List.append_assoc]
theorem cs_length (l : List Tk) : (cs l).length = l.length * 3 := by
  induction l with
  | nil => rfl
  | cons x l ih => rw [cs, List.length_append, ih, List.length_cons]; simp [tkc]; omega

/-- what a number of a package of the library's is: any -/
def HX (w : World) : Prop := 1 < w.heap.size ∧ ∃ m, w.cell? ⟨1, 0, none⟩ = some (.int .i64 m)
theorem HX.below {w w' : World} (h : HX w) (hb : Below w.heap.size w w') : HX w' := by
  obtain ⟨h0, m, hm⟩ := h
  exact ⟨Nat.lt_of_lt_of_le h0 hb.size, m, (hb.cell (p := ⟨1, 0, none⟩) h0).trans hm⟩

/-- the place, from a place on, at which a text stands; the end, if there is none -/
def upP (s : ByteArray) (a : Nat) (t : ByteArray) : Nat :=
  if 0 ≤ Lib.index (s.data.toList.drop a) t.data.toList then a + (Lib.index (s.data.toList.drop a) t.data.toList).toNat else s.size

theorem ext1 (t : ByteArray) (e : Nat) : (t.extract e t.size).data.toList = t.data.toList.drop e := by
  rw [ByteArray.data_extract, Array.toList_extract, List.extract_eq_take_drop, List.take_of_length_le (by simp)]

theorem index_le : ∀ (s t : List UInt8), Lib.index s t ≤ s.length
  | [], t => by unfold Lib.index; split <;> simp
  | b :: l, t => by
    have := index_le l t
    unfold Lib.index
    split
    · simp; omega
    · split <;> simp <;> omega

set_option maxHeartbeats 1000000 in
theorem upTo_any (s : ByteArray) (a : Nat) (t : ByteArray) (w : World) (hs : s.size ≤ 4294967280) (ha : a ≤ s.size) (hX : HX w) :
    Calls Tryd.prog 115 #[.string s, .int .i64 (a : Int), .string t] w fun e w' => e = .returned (.int .i64 (upP s a t : Int)) ∧ w = w' := by
  obtain ⟨_, m, hm⟩ := hX
  have hsz : (s.extract a s.size).size = s.size - a := by rw [ByteArray.size_extract]; omega
  have hI := Tryd.strings_Index (s.extract a s.size) t m w (by omega) hm
  rw [ext1] at hI
  have hle := index_le (s.data.toList.drop a) t.data.toList
  have hll : (s.data.toList.drop a).length = s.size - a := by simp
  have hup : upP s a t = if 0 ≤ Lib.index (s.data.toList.drop a) t.data.toList then a + (Lib.index (s.data.toList.drop a) t.data.toList).toNat else s.size := rfl
  generalize Lib.index (s.data.toList.drop a) t.data.toList = i at hI hle hup
  have HU := Lib.hid hup
  have HI := Lib.hid hI
  clear hup hI hm
  have hle' : i ≤ 4294967280 := by omega
  have hai : (a : Int) ≤ (s.size : Int) := by omega
  by_cases h0 : 0 ≤ i
  · go_enter Tryd.func115, Tryd.ntmps115
    go_wp2_with fail
    refine HI.out.mono ?_
    rintro e w' ⟨rfl, rfl⟩
    go_wp2
    go_ret
    refine ⟨?_, by first | rfl | trivial⟩
    rw [HU.out, if_pos h0]
    show Ending.returned (.int .i64 ((a : Int) + i)) = .returned (.int .i64 ((a + i.toNat : Nat) : Int))
    rw [show ((a + i.toNat : Nat) : Int) = (a : Int) + i from by omega]
  · have h0' : i < 0 := by omega
    go_enter Tryd.func115, Tryd.ntmps115
    go_wp2_with fail
    refine HI.out.mono ?_
    rintro e w' ⟨rfl, rfl⟩
    go_wp2
    go_ret
    refine ⟨?_, by first | rfl | trivial⟩
    rw [HU.out, if_neg (by omega)]
    rfl

/-- the end of a line behind tokens, if there are words of it -/
def endL (l : List Tk) (a : Nat) : List Tk :=
  match l.getLast? with
  | none => l
  | some x => if x.k = 3 then l else l ++ [⟨3, ⟨#[]⟩, a⟩]
theorem info42 : (Tryd.prog.info? 23).map (fun i => (i.zero, i.size, i.bytes)) = some (some (.agg #[.int .i64 0, .string ⟨#[]⟩, .int .i64 0]), 3, 32) := by kernel_rfl

theorem cell_three_new (w : World) (x y z : Value) (t : TypeId) : ∀ j u, [x, y, z][j]? = some u → (w.alloc (.cells #[x, y, z] t)).cell? ((⟨w.heap.size, 0, none⟩ : Addr).add j) = some u := by
  intro j u hj
  match j, hj with
  | 0, hj => simp at hj; subst hj; simp [Addr.add]
  | 1, hj => simp at hj; subst hj; simp [Addr.add]
  | 2, hj => simp at hj; subst hj; simp [Addr.add]

set_option maxHeartbeats 1000000 in
theorem end_any (l : List Tk) (v : Value) (a : Nat) (w : World) (B : Nat) (hB : B ≤ w.heap.size) (hl : l.length ≤ 100000) (hr : w.ownsRow B 23 3 v l.length (cs l)) :
    Calls Tryd.prog 36 #[v, .int .i64 (a : Int)] w fun e w' => ∃ v', e = .returned v' ∧ w'.ownsRow B 23 3 v' (endL l a).length (cs (endL l a)) ∧ Below B w w' := by
  obtain ⟨i0, hi, hz0, hz1, hz2⟩ := info_parts info42
  rcases List.eq_nil_or_concat l with rfl | ⟨l, x, rfl⟩
  · have hl0 : ∃ o c, v = .slice o 0 c := by
      rcases hr.2 with ⟨rfl, _⟩ | ⟨g, cap, cur, rfl, _⟩
      · exact ⟨_, _, rfl⟩
      · exact ⟨_, _, rfl⟩
    obtain ⟨o, c, rfl⟩ := hl0
    go_enter Tryd.func36, Tryd.ntmps36
    go_wp2
    go_ret
    exact ⟨_, rfl, hr, Below.refl _ _⟩
  · rw [List.concat_eq_append] at hr hl ⊢
    have hlen : (l ++ [x]).length = l.length + 1 := by simp
    rw [hlen] at hr hl
    obtain ⟨g, cap, rfl⟩ := ownsRow_succ hr
    have hend : endL (l ++ [x]) a = if x.k = 3 then l ++ [x] else l ++ [x] ++ [⟨3, ⟨#[]⟩, a⟩] := by
      unfold endL; rw [List.getLast?_append]; rfl
    have hc := hr.cells (g := g) rfl (l.length * 3) (.int .i64 (x.k : Int)) (by
      rw [cs_append, List.getElem?_append_right (by rw [cs_length]; exact Nat.le_refl _), cs_length, Nat.sub_self]; rfl)
    rw [Addr.add_lit, Nat.zero_add] at hc
    have hle : ∀ z : Int, z = (x.k : Int) → (x.k = 3 ↔ z = 3) := fun z h => by omega
    obtain ⟨z, hz⟩ : ∃ z : Int, z = (x.k : Int) := ⟨_, rfl⟩
    have hk3 := hle z hz
    rw [← hz] at hc
    have HE := Lib.hid hend
    have HK := Lib.hid hk3
    clear hle hz hend hk3
    by_cases hk : z = 3
    · subst hk
      go_enter Tryd.func36, Tryd.ntmps36
      go_wp2
      go_ret
      rw [HE.out, if_pos (HK.out.2 (by first | rfl | trivial)), hlen]
      exact ⟨_, rfl, hr, Below.refl _ _⟩
    · have hkb : (z == 3) = false := by rw [beq_eq_false_iff_ne]; exact hk
      have hne : ¬ x.k = 3 := fun h => hk (HK.out.1 h)
      have HNE := Lib.hid hne
      clear hne hk
      go_enter Tryd.func36, Tryd.ntmps36
      go_wp2_with (at_builtin; refine wpList_append_own _ rfl _ _ 36 rfl B 23 i0 (.agg #[.int .i64 0, .string ⟨#[]⟩, .int .i64 0]) 3 32 Tryd.underlying36 hi hz0 hz1 hz2 rfl (by decide) _ _ _ rfl (hr.alloc _) ⟨w.heap.size, 0, none⟩ 1 1 [.int .i64 3, .string ⟨#[]⟩, .int .i64 (a : Int)] rfl rfl (cell_three_new _ _ _ _ _) (fun x hx => by simp at hx; rcases hx with rfl | rfl | rfl <;> rfl) (by unfold maxLen; omega) (by omega) (by simp; omega) ?_; intro v' w1 hown' hgrow _)
      go_ret
      rw [HE.out, if_neg HNE.out]
      refine ⟨_, rfl, ?_, Below.grown ((Below.refl B w).alloc hB _) hgrow (by simp; omega) (fun j hj => (hr.lt j hj).1)⟩
      rw [cs_append, List.length_append, hlen]
      exact hown'
end Go.Proofs.YtfljnhmpelpdaaaDoor.Tok
