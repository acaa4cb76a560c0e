/- Gates in one way, plainly. -/
import Derived.Test.YtfkmolbcgnkfdaaDoorCanon4
import Derived.Test.YtfkmolbcgnkfdaaDoorBounds
namespace Go.Proofs.YtfkmolbcgnkfdaaDoor
open Go.RowKit
theorem canonF_name (g : Gt) : (canonF g).name = g.name := by
  unfold canonF
  split
  · split <;> rfl
  · split <;> rfl
theorem canonF_ins (g : Gt) : (canonF g).ins = g.ins := by
  unfold canonF
  split
  · split <;> rfl
  · split <;> rfl
theorem canonF_rows (g : Gt) : (canonF g).rows = g.rows ∨ (canonF g).rows = [] := by
  unfold canonF
  split
  · split
    · exact .inr rfl
    · exact .inl rfl
  · split <;> exact .inl rfl
theorem opC_spec {g : Gt} {o : Int} (h : opC g = (o, true)) : ∃ k : Nat, k < 10 ∧ o = (k : Int) ∧ covOk g k = true := by
  unfold opC at h
  split at h
  · rename_i k hk
    have h2 := List.find?_range_eq_some.1 hk
    exact ⟨k, List.mem_range.1 h2.2.1, (congrArg Prod.fst h).symm, h2.1⟩
  · cases h
theorem oneF_twice (o : Int) : oneF (oneF o) = oneF o := by
  unfold oneF
  split
  · rfl
  · split
    · rfl
    · rfl
theorem oneF_ten {o : Int} (h : ¬ o = 10) : ¬ oneF o = 10 := by
  unfold oneF
  split
  · omega
  · split <;> omega
theorem oneF_fit (k : Nat) (hk : k < 10) (h1 : loZ (k : Int) ≤ 1) (h2 : 1 ≤ hiZ (k : Int)) : oneF (k : Int) = (k : Int) := by
  match k, hk, h1, h2 with
  | 0, _, _, _ => rfl
  | 1, _, _, _ => rfl
  | 2, _, _, _ => rfl
  | 3, _, _, _ => rfl
  | 4, _, h, _ => exact absurd h (by decide)
  | 5, _, h, _ => exact absurd h (by decide)
  | 6, _, h, _ => exact absurd h (by decide)
  | 7, _, h, _ => exact absurd h (by decide)
  | 8, _, h, _ => exact absurd h (by decide)
  | 9, _, h, _ => exact absurd h (by decide)
theorem covOk_fit {g : Gt} {k : Nat} (h : covOk g k = true) : loZ (k : Int) ≤ (g.ins.length : Int) ∧ (g.ins.length : Int) ≤ hiZ (k : Int) ∧ hasC g (k : Int) = true := by
  unfold covOk at h
  simpa using h
theorem canonF_no {g : Gt} {o : Int} (h : g.op = 10) (hq : opC g = (o, false)) : canonF g = g := by unfold canonF; rw [if_pos h, hq]; rfl
theorem canonF_yes {g : Gt} {o : Int} (h : g.op = 10) (hq : opC g = (o, true)) : canonF g = ⟨g.name, o, g.ins, [], false⟩ := by unfold canonF; rw [if_pos h, hq]; rfl
theorem canonF_one {g : Gt} (h : ¬ g.op = 10) (h1 : g.ins.length = 1 ∧ g.rows.length = 0 ∧ g.off = false) : canonF g = ⟨g.name, oneF g.op, g.ins, g.rows, g.off⟩ := by unfold canonF; rw [if_neg h, if_pos h1]
theorem canonF_same {g : Gt} (h : ¬ g.op = 10) (h1 : ¬ (g.ins.length = 1 ∧ g.rows.length = 0 ∧ g.off = false)) : canonF g = g := by unfold canonF; rw [if_neg h, if_neg h1]
theorem canonF_twice (g : Gt) : canonF (canonF g) = canonF g := by
  by_cases h10 : g.op = 10
  · obtain ⟨o, b, hq⟩ : ∃ o b, opC g = (o, b) := ⟨_, _, rfl⟩
    cases b
    · rw [canonF_no h10 hq, canonF_no h10 hq]
    · obtain ⟨k, hk, rfl, hc⟩ := opC_spec hq
      obtain ⟨c1, c2, _⟩ := covOk_fit hc
      rw [canonF_yes h10 hq]
      by_cases h1 : g.ins.length = 1
      · rw [h1] at c1 c2
        refine (canonF_one (g := ⟨g.name, (k : Int), g.ins, [], false⟩) (show ¬ (k : Int) = 10 by omega) ⟨h1, rfl, rfl⟩).trans ?_
        show Gt.mk g.name (oneF (k : Int)) g.ins [] false = _
        rw [oneF_fit k hk c1 c2]
      · exact canonF_same (show ¬ (k : Int) = 10 by omega) (fun h => h1 h.1)
  · by_cases h1 : g.ins.length = 1 ∧ g.rows.length = 0 ∧ g.off = false
    · rw [canonF_one h10 h1]
      refine (canonF_one (g := ⟨g.name, oneF g.op, g.ins, g.rows, g.off⟩) (oneF_ten h10) h1).trans ?_
      show Gt.mk g.name (oneF (oneF g.op)) g.ins g.rows g.off = _
      rw [oneF_twice]
    · rw [canonF_same h10 h1, canonF_same h10 h1]
theorem inOp_yes {o : Int} (h : 0 ≤ o ∧ o ≤ 10) : inOp o = true := decide_eq_true h
theorem canonF_gate {g : Gt} (h : gateB g = true) : gateB (canonF g) = true := by
  by_cases h10 : g.op = 10
  · obtain ⟨o, b, hq⟩ : ∃ o b, opC g = (o, b) := ⟨_, _, rfl⟩
    cases b
    · rw [canonF_no h10 hq]
      exact h
    · obtain ⟨k, hk, rfl, hc⟩ := opC_spec hq
      obtain ⟨c1, c2, _⟩ := covOk_fit hc
      rw [canonF_yes h10 hq, gate_other (inOp_yes (show 0 ≤ (k : Int) ∧ (k : Int) ≤ 10 by omega)) (show ¬ (k : Int) = 10 by omega)]
      simp [c1, c2]
  · by_cases h1 : g.ins.length = 1 ∧ g.rows.length = 0 ∧ g.off = false
    · rw [canonF_one h10 h1]
      by_cases hi : inOp g.op = true
      · have h' := h
        rw [gate_other hi h10, h1.1] at h'
        simp only [Bool.and_eq_true, decide_eq_true_eq] at h'
        have hin : 0 ≤ g.op ∧ g.op ≤ 10 := of_decide_eq_true hi
        obtain ⟨k, hk⟩ : ∃ k : Nat, g.op = (k : Int) := ⟨g.op.toNat, by omega⟩
        have e : oneF g.op = g.op := by
          rw [hk] at h' ⊢
          exact oneF_fit k (by omega) h'.1.1 h'.1.2
        rw [e]
        exact h
      · rw [Bool.not_eq_true] at hi
        rw [gate_out hi] at h
        cases h
    · rw [canonF_same h10 h1]
      exact h
theorem canonF_makes {nm a : ByteArray} {o : Int} (h : 2 ≤ o) (h' : o ≤ 9) : gateB (canonF ⟨nm, o, [a], [], false⟩) = true := by
  rw [canonF_one (show ¬ o = 10 by omega) ⟨rfl, rfl, rfl⟩]
  obtain ⟨k, rfl⟩ : ∃ k : Nat, o = ((k + 2 : Nat) : Int) := ⟨(o - 2).toNat, by omega⟩
  have hk : k < 8 := by omega
  clear h h'
  match k, hk with
  | 0, _ => rfl
  | 1, _ => rfl
  | 2, _ => rfl
  | 3, _ => rfl
  | 4, _ => rfl
  | 5, _ => rfl
  | 6, _ => rfl
  | 7, _ => rfl
theorem canon_ex (g x : Gt) (vi vr : Value) (w : World) (hi : Inn w vi g.ins) (hr : Inn w vr g.rows) (hb : fewgB g = true) (hw : (Lit.int .i64 g.op).wf = true) (hq : canonF g = x) :
    Calls Tryd.prog 25 #[.agg #[.string g.name, .int .i64 g.op, vi, vr, .bool g.off]] w fun e w' => ∃ (u : Option Addr) (k : Nat) (p : Option Addr) (m : Nat), e = .returned (.agg #[.string x.name, .int .i64 x.op, .slice u x.ins.length k, .slice p x.rows.length m, .bool x.off]) ∧
      (Inn w' (.slice u x.ins.length k) x.ins ∧ Inn w' (.slice p x.rows.length m) x.rows ∧ (Lit.int .i64 x.op).wf = true) ∧ Below w.heap.size w w' := by
  obtain ⟨b1, b2, b3⟩ := fewgB_get hb
  refine (canon_any g vi vr w hi hr (by omega) (by omega) (by unfold maxLen; omega) hw).mono ?_
  rintro e w' ⟨⟨rn, ro, rv, rr, rf⟩, rfl, hat, hb⟩
  rw [hq] at hat
  obtain ⟨p, m, hv⟩ := hat.rows.lst.slice
  obtain ⟨u, k, hv2⟩ := hat.ins.lst.slice
  have h1 := hat.name
  have h2 := hat.op
  have h3 := hat.off
  have h4 := hat.ins
  have h5 := hat.rows
  have h6 := hat.wf
  simp only at h1 h2 h3 hv hv2 h4 h5
  subst h1 h2 h3 hv hv2
  exact ⟨u, k, p, m, rfl, ⟨h4, h5, h6⟩, hb⟩
theorem fewgB_canon {g : Gt} (h : fewgB g = true) : fewgB (canonF g) = true := by
  obtain ⟨b1, b2, b3⟩ := fewgB_get h
  unfold fewgB at h ⊢
  rw [canonF_name, canonF_ins]
  rcases canonF_rows g with e | e
  · rw [e]
    exact h
  · rw [e]
    simp only [Bool.and_eq_true] at h ⊢
    exact ⟨h.1, rfl, h.2.2⟩
theorem gtEq_self (g : Gt) : gtEq g g = true := by
  unfold gtEq
  rw [stEq_self, eqL_self stEq_self, eqL_self stEq_self]
  simp
end Go.Proofs.YtfkmolbcgnkfdaaDoor
