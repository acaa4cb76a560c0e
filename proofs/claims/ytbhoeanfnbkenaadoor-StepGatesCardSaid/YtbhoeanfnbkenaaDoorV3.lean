import Derived.Test.YtbhoeanfnbkenaaDoorV2
namespace Go.Proofs.YtbhoeanfnbkenaaDoor
open Go.RowKit
set_option maxRecDepth 100000
set_option linter.unusedSimpArgs false
def trueN : List Bool → Nat
  | [] => 0
  | v :: l => (if v = true then 1 else 0) + trueN l
theorem oddB_tr (l : List Bool) : ∀ a : Bool, l.foldl (fun a v => a != v) a = (a != decide (trueN l % 2 = 1)) := by
  induction l with
  | nil => intro a; cases a <;> rfl
  | cons v l ih =>
    intro a
    rw [List.foldl_cons, ih, show trueN (v :: l) = (if v = true then 1 else 0) + trueN l from rfl]
    rcases Nat.mod_two_eq_zero_or_one (trueN l) with h | h
    · cases v
      · rw [if_neg (by decide), Nat.zero_add, Bool.bne_false]
      · rw [if_pos rfl, h, show (1 + trueN l) % 2 = 1 by omega]; cases a <;> rfl
    · cases v
      · rw [if_neg (by decide), Nat.zero_add, Bool.bne_false]
      · rw [if_pos rfl, h, show (1 + trueN l) % 2 = 0 by omega]; cases a <;> rfl
theorem preB_cons (k m : Nat) : preB k (m + 1) (m + 1) = sgB k m :: preB k m m := by
  unfold preB
  rw [List.range_succ_eq_map, List.map_cons, List.map_map]
  refine congr (congrArg _ rfl) (List.map_congr_left fun t _ => ?_)
  show sgB k (m + 1 - 1 - (t + 1)) = sgB k (m - 1 - t)
  rw [show m + 1 - 1 - (t + 1) = m - 1 - t by omega]
theorem onesB_shift (k m : Nat) : ∀ j, onesB k (m + 1) (j + 1) = bitN k m + onesB k m j
  | 0 => by show 0 + bitN k (m + 1 - 1 - 0) = bitN k m + 0; rw [Nat.zero_add]; rfl
  | j + 1 => by
    show onesB k (m + 1) (j + 1) + bitN k (m + 1 - 1 - (j + 1)) = bitN k m + (onesB k m j + bitN k (m - 1 - j))
    rw [onesB_shift k m j, show m + 1 - 1 - (j + 1) = m - 1 - j by omega]
    omega
theorem bitN_low (v k m i : Nat) (h : i < m) : bitN (2 ^ m * v + k) i = bitN k i := by
  unfold bitN
  obtain ⟨d, rfl⟩ : ∃ d, m = i + (d + 1) := ⟨m - i - 1, by omega⟩
  rw [Nat.pow_add, Nat.mul_assoc, Nat.mul_add_div (Nat.two_pow_pos i), Nat.pow_succ, Nat.mul_comm (2 ^ d) 2, Nat.mul_assoc]
  omega
theorem bitN_top (v k m : Nat) (hv : v ≤ 1) (hk : k < 2 ^ m) : bitN (2 ^ m * v + k) m = v := by
  unfold bitN
  rw [Nat.mul_add_div (Nat.two_pow_pos m), Nat.div_eq_of_lt hk]
  omega
theorem preB_low (v k m : Nat) : preB (2 ^ m * v + k) m m = preB k m m := by
  unfold preB
  refine List.map_congr_left fun t ht => ?_
  have := List.mem_range.1 ht
  unfold sgB
  rw [bitN_low v k m _ (by omega)]
theorem fit_iff (k m : Nat) (v : Bool) : fit1 (sgB k m) v = true ↔ bitN k m = if v = true then 1 else 0 := by
  unfold sgB
  rcases bitN_01 k m with h | h <;> rw [h] <;> cases v <;> decide
theorem fitB_cons (c : UInt8) (r : Row) (v : Bool) (l : List Bool) : fitB (c :: r) (v :: l) = (fit1 c v && fitB r l) := rfl
theorem fit_ones (k : Nat) : ∀ l : List Bool, fitB (preB k l.length l.length) l = true → onesB k l.length l.length = trueN l
  | [], _ => rfl
  | v :: l, h => by
    rw [List.length_cons, preB_cons, fitB_cons, Bool.and_eq_true, fit_iff] at h
    rw [List.length_cons, onesB_shift, fit_ones k l h.2, h.1]
    rfl
theorem fit_some : ∀ l : List Bool, ∃ k, k < 2 ^ l.length ∧ fitB (preB k l.length l.length) l = true
  | [] => ⟨0, by decide, rfl⟩
  | v :: l => by
    obtain ⟨k, h1, h2⟩ := fit_some l
    have hv : (if v = true then 1 else 0) ≤ 1 := by cases v <;> decide
    refine ⟨2 ^ l.length * (if v = true then 1 else 0) + k, ?_, ?_⟩
    · rw [List.length_cons, Nat.pow_succ]
      have := Nat.mul_le_mul_left (2 ^ l.length) hv
      omega
    · rw [List.length_cons, preB_cons, fitB_cons, preB_low, h2, Bool.and_true, fit_iff, bitN_top _ _ _ hv h1]
theorem odd_any (l : List Bool) (w : Nat) : ((oddR l.length w (2 ^ l.length)).any fun r => fitB r l) = decide (trueN l % 2 = w) := by
  rw [Bool.eq_iff_iff, List.any_eq_true, decide_eq_true_eq]
  unfold oddR
  constructor
  · rintro ⟨r, hr, hf⟩
    obtain ⟨k, hk, rfl⟩ := List.mem_map.1 hr
    have := (List.mem_filter.1 hk).2
    rw [decide_eq_true_eq, fit_ones k l hf] at this
    exact this
  · intro h
    obtain ⟨k, h1, h2⟩ := fit_some l
    exact ⟨_, List.mem_map.2 ⟨k, List.mem_filter.2 ⟨List.mem_range.2 h1, by rw [decide_eq_true_eq, fit_ones k l h2]; exact h⟩, rfl⟩, h2⟩
theorem fit_all1 : ∀ l : List Bool, fitB (allR 49 l.length) l = !decide (false ∈ l)
  | [] => rfl
  | v :: l => by
    show fitB (49 :: allR 49 l.length) (v :: l) = _
    rw [fitB_cons, fit_all1 l]
    cases v <;> simp [fit1]
theorem fit_all0 : ∀ l : List Bool, fitB (allR 48 l.length) l = !decide (true ∈ l)
  | [] => rfl
  | v :: l => by
    show fitB (48 :: allR 48 l.length) (v :: l) = _
    rw [fitB_cons, fit_all0 l]
    cases v <;> simp [fit1]
def rowsG (g : Gt) (n : Nat) : List Row × Bool := if g.op = 10 then (g.rows, g.off) else rowsC g.op n
def rgV (g : Gt) (ins : List Bool) : Bool := ((rowsG g ins.length).1.any fun r => fitB r ins) != (rowsG g ins.length).2
theorem bne_c (a b : Bool) : (a != b) = (b != a) := by cases a <;> cases b <;> rfl
theorem okG_ar {g : Gt} {ins : List Bool} (h : okG g ins = true) : loF g.op ≤ ins.length ∧ (ins.length : Int) ≤ hiF g.op := by
  unfold okG gateB at h
  simp only [Bool.and_eq_true, decide_eq_true_eq] at h
  rw [h.2]
  exact h.1.2.1
theorem rgV_eq {g : Gt} {ins : List Bool} (h : okG g ins = true) : rgV g ins = gateV g ins := by
  have har := okG_ar h
  have ho := of_decide_eq_true (okG_ok h).1
  clear h
  obtain ⟨name, op, gi, rows, off⟩ := g
  simp only at har ho
  unfold rgV gateV
  by_cases h10 : op = 10
  · subst h10
    exact bne_c _ _
  have hcase : op = 0 ∨ op = 1 ∨ op = 2 ∨ op = 3 ∨ op = 4 ∨ op = 5 ∨ op = 6 ∨ op = 7 ∨ op = 8 ∨ op = 9 := by omega
  rcases hcase with rfl | rfl | rfl | rfl | rfl | rfl | rfl | rfl | rfl | rfl
  · rfl
  · rfl
  · have hn : (1 : Int) ≤ ins.length ∧ (ins.length : Int) ≤ 1 := har
    obtain ⟨v, rfl⟩ := List.length_eq_one_iff.1 (show ins.length = 1 by omega)
    cases v <;> rfl
  · have hn : (1 : Int) ≤ ins.length ∧ (ins.length : Int) ≤ 1 := har
    obtain ⟨v, rfl⟩ := List.length_eq_one_iff.1 (show ins.length = 1 by omega)
    cases v <;> rfl
  · show ((fitB (allR 49 ins.length) ins || false) != false) = (false != !decide (false ∈ ins))
    rw [fit_all1, Bool.or_false]; exact bne_c _ _
  · show ((fitB (allR 49 ins.length) ins || false) != true) = (true != !decide (false ∈ ins))
    rw [fit_all1, Bool.or_false]; exact bne_c _ _
  · show ((fitB (allR 48 ins.length) ins || false) != true) = (false != decide (true ∈ ins))
    rw [fit_all0, Bool.or_false]; cases decide (true ∈ ins) <;> rfl
  · show ((fitB (allR 48 ins.length) ins || false) != false) = (true != decide (true ∈ ins))
    rw [fit_all0, Bool.or_false]; cases decide (true ∈ ins) <;> rfl
  · show ((oddR ins.length 1 (2 ^ ins.length)).any (fun r => fitB r ins) != false) = (false != oddB ins)
    rw [odd_any, show oddB ins = _ from oddB_tr ins false]; cases decide (trueN ins % 2 = 1) <;> rfl
  · show ((oddR ins.length 0 (2 ^ ins.length)).any (fun r => fitB r ins) != false) = (true != oddB ins)
    rw [odd_any, show oddB ins = _ from oddB_tr ins false]
    rcases Nat.mod_two_eq_zero_or_one (trueN ins) with h | h <;> rw [h] <;> rfl
end Go.Proofs.YtbhoeanfnbkenaaDoor
