/- Covers of ops, plainly. -/
import Derived.Test.YtfkmolbcgnkfdaaDoorCanonP
namespace Go.Proofs.YtfkmolbcgnkfdaaDoor
open Go.RowKit
def factB (op k j : Nat) : Bool := !(rowsS op k).2.2 || (decide (loZ op ≤ (k : Int)) && (decide ((k : Int) ≤ hiZ op) && (((rowsS op k).2.1 == (decide (op = 5) || decide (op = 6))) &&
  (decide (j = op) || !(decide (loZ j ≤ (k : Int)) && (decide ((k : Int) ≤ hiZ j) && (((decide (op = 5) || decide (op = 6)) == (decide (j = 5) || decide (j = 6))) && decide (rowsL j k = rowsL op k))))))))
theorem factB_all : ∀ op < 10, ∀ k < 9, ∀ j < 10, factB op k j = true := by decide +kernel
def sizeB (op k : Nat) : Bool := fewB (rowsL op k) 140
theorem sizeB_all : ∀ op < 10, ∀ k < 9, sizeB op k = true := by decide +kernel
def abcL : List ByteArray := [⟨#[97]⟩, ⟨#[98]⟩, ⟨#[99]⟩, ⟨#[100]⟩, ⟨#[101]⟩, ⟨#[102]⟩, ⟨#[103]⟩, ⟨#[104]⟩]
def cov (L rows : List ByteArray) (off : Bool) : Gt := ⟨⟨#[122]⟩, 10, L, rows, off⟩
theorem dec_cast {a b : Nat} : decide ((a : Int) = (b : Int)) = decide (a = b) := by
  by_cases h : a = b
  · rw [decide_eq_true h, decide_eq_true (by omega)]
  · rw [decide_eq_false h, decide_eq_false (by omega)]
theorem dec5 (a : Nat) : decide ((a : Int) = 5) = decide (a = 5) := dec_cast (b := 5)
theorem dec6 (a : Nat) : decide ((a : Int) = 6) = decide (a = 6) := dec_cast (b := 6)
theorem covOk_cov {L rows : List ByteArray} {off : Bool} {k j : Nat} (hL : L.length = k) : covOk (cov L rows off) j = (decide (loZ (j : Int) ≤ (k : Int)) && (decide ((k : Int) ≤ hiZ (j : Int)) && ((off == (decide (j = 5) || decide (j = 6))) && decide (rowsL j k = rows)))) := by
  subst hL
  unfold covOk hasC
  rw [dec5, dec6]
  rfl
theorem fact_get {op k : Nat} (ho : op < 10) (hk : k < 9) (h : (rowsS op k).2.2 = true) : decide (loZ (op : Int) ≤ (k : Int)) = true ∧ decide ((k : Int) ≤ hiZ (op : Int)) = true ∧ (rowsS op k).2.1 = (decide (op = 5) || decide (op = 6)) ∧
    ∀ j : Nat, j < 10 → j ≠ op → (decide (loZ (j : Int) ≤ (k : Int)) && (decide ((k : Int) ≤ hiZ (j : Int)) && (((decide (op = 5) || decide (op = 6)) == (decide (j = 5) || decide (j = 6))) && decide (rowsL j k = rowsL op k)))) = false := by
  have base := factB_all op ho k hk op ho
  unfold factB at base
  rw [h] at base
  simp only [Bool.not_true, Bool.false_or, Bool.and_eq_true, beq_iff_eq] at base
  refine ⟨base.1, base.2.1, base.2.2.1, fun j hj hne => ?_⟩
  have f := factB_all op ho k hk j hj
  unfold factB at f
  rw [h, base.1, base.2.1, base.2.2.1, decide_eq_false hne] at f
  simp only [Bool.not_true, Bool.false_or, Bool.true_and, beq_self_eq_true, Bool.not_eq_true'] at f
  exact f
theorem eqL_st : ∀ {l m : List ByteArray}, eqL stEq l m = true → l = m
  | [], [], _ => rfl
  | [], _ :: _, h => by cases h
  | _ :: _, [], h => by cases h
  | x :: l, y :: m, h => by
    rw [eqL, Bool.and_eq_true] at h
    rw [(stEq_iff x y).1 h.1, eqL_st h.2]
theorem opC_own {L : List ByteArray} {op k : Nat} (ho : op < 10) (hk : k < 9) (hL : L.length = k) (h : (rowsS op k).2.2 = true) : opC (cov L (rowsS op k).1 (rowsS op k).2.1) = ((op : Int), true) := by
  obtain ⟨f1, f2, f3, f4⟩ := fact_get ho hk h
  have hr := rows_same op k ⟨by omega, by omega⟩ (by omega) h
  refine opC_at ho (fun j hj => ?_) ?_
  · rw [covOk_cov hL, f3, hr]
    exact f4 j (by omega) (by omega)
  · rw [covOk_cov hL, f1, f2, f3, hr]
    simp
theorem canon_own {L : List ByteArray} {op k : Nat} (ho : op < 10) (hk : k < 9) (hL : L.length = k) (h : (rowsS op k).2.2 = true) : canonF (cov L (rowsS op k).1 (rowsS op k).2.1) = ⟨⟨#[122]⟩, (op : Int), L, [], false⟩ :=
  canonF_yes rfl (opC_own ho hk hL h)
theorem canon_else {L rows : List ByteArray} {off : Bool} {op k : Nat} (ho : op < 10) (hk : k < 9) (hL : L.length = k) (h : (rowsS op k).2.2 = true) (e1 e2 : Bool) (h1 : eqL stEq rows (rowsS op k).1 = e1) (h2 : (off == (rowsS op k).2.1) = e2) :
    ((canonF (cov L rows off)).op == (op : Int)) = (e1 && e2) := by
  cases hc : (e1 && e2)
  · rw [beq_eq_false_iff_ne]
    intro hop
    obtain ⟨o, b, hq⟩ : ∃ o b, opC (cov L rows off) = (o, b) := ⟨_, _, rfl⟩
    cases b
    · rw [canonF_no rfl hq] at hop
      have : (10 : Int) = (op : Int) := hop
      omega
    · obtain ⟨k', hk', rfl, hcov⟩ := opC_spec hq
      rw [canonF_yes rfl hq] at hop
      have hkk : k' = op := by
        have : (k' : Int) = (op : Int) := hop
        omega
      subst hkk
      rw [covOk_cov hL] at hcov
      obtain ⟨f1, f2, f3, f4⟩ := fact_get ho hk h
      simp only [Bool.and_eq_true, decide_eq_true_eq] at hcov
      obtain ⟨_, _, c3, c4⟩ := hcov
      have hr := rows_same k' k ⟨by omega, by omega⟩ (by omega) h
      rw [hr, c4, eqL_self stEq_self] at h1
      rw [f3, c3] at h2
      subst h1 h2
      cases hc
  · rw [Bool.and_eq_true] at hc
    obtain ⟨rfl, rfl⟩ := hc
    have e3 := eqL_st h1
    have e4 := beq_iff_eq.1 h2
    subst e3 e4
    rw [canon_own ho hk hL h]
    exact beq_self_eq_true _
theorem inn_take {W : World} {B k : Nat} (h : Blk W B (abcL.flatMap stc).toArray 9) (hk : k ≤ 8) : Inn W (.slice (some ⟨B, 0, none⟩) k 8) (abcL.take k) := by
  have hl : (abcL.take k).length = k := by rw [List.length_take]; show min k 8 = k; omega
  refine ⟨⟨_, 0, 8, by rw [hl], fun _ => ⟨B, rfl, h.lt, fun j u hj => ?_⟩⟩, by rw [hl]; unfold maxLen; omega, fun x hx => ?_, nilfine_some _ _ _, fun b n c e => by cases e; exact hk⟩
  · rw [Nat.zero_add, h.cell j]
    have e : abcL.flatMap stc = (abcL.take k).flatMap stc ++ (abcL.drop k).flatMap stc := by rw [← List.flatMap_append, List.take_append_drop]
    rw [List.getElem?_toArray, e, List.getElem?_append_left (List.getElem?_eq_some_iff.1 hj).1]
    exact hj
  · have : x ∈ abcL := List.mem_of_mem_take hx
    have h2 : ∀ y ∈ abcL, y.size ≤ 60 := by decide
    have := h2 x this
    unfold maxLen
    omega
theorem cov_few {L rows : List ByteArray} {off : Bool} (h1 : fewB L 12 = true) (h2 : fewB rows 140 = true) : fewgB (cov L rows off) = true := by
  unfold fewgB cov
  rw [h1, h2]
  rfl
theorem take_few {k : Nat} (hk : k ≤ 8) : fewB (abcL.take k) 12 = true := by
  have h : ∀ k < 9, fewB (abcL.take k) 12 = true := by decide +kernel
  exact h k (by omega)
end Go.Proofs.YtfkmolbcgnkfdaaDoor
