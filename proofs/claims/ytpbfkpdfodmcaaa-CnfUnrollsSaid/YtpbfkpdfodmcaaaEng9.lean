/- The engine, 9: operations one behind the other. -/
import Derived.Test.YtpbfkpdfodmcaaaEng8
namespace Go.Proofs.Ytpbfkpdfodmcaaa
open Go.RowKit

def runI (P : Program) (Hy : World → Prop) (tt : Tys) (cls : Nat → Nat) (ops : Array Oper) : List Nat → S → (S → Prop) → Prop
  | [], s, K => K s
  | i :: l, s, K => match ops[i]? with
    | some o => opK P Hy tt cls ops.toList o s fun s' => runI P Hy tt cls ops l s' K
    | none => runI P Hy tt cls ops l s K

section
variable {P : Program} {tt : Tys} {Hy : World → Prop} {X : World → (Nat → Prop) → (Nat → O) → (Nat → Value) → Prop} {cls : Nat → Nat} {B : Nat} {St : Nat → Prop} {w0 w : World} {s : S} {ι : Nat → Value} {a : Act}

/-- what is so of states is so of memory -/
def Sim (Hy : World → Prop) (X : World → (Nat → Prop) → (Nat → O) → (Nat → Value) → Prop) (B : Nat) (St : Nat → Prop) (w0 : World) (K : S → Prop) (K' : Act → World → Prop) : Prop := ∀ s ι a w, Rel Hy X B St w0 s ι a w → K s → K' a w

theorem Ra.tup0 {w : World} {D : Nat → Prop} {o : Nat → O} {ι : Nat → Value} {v : Value} (h : Ra w D o ι v (.tup [])) : ∃ cs, v = .tuple cs := by
  cases h
  exact ⟨_, rfl⟩
theorem opK_ok (hT : Tys.ok P tt) (h : Rel Hy X B St w0 s ι a w) {Q : Exit → Act → World → Prop} {ops : Array Oper} {i : Nat} {o : Oper} (ho : ops[i]? = some o) {K : S → Prop} {K' : Act → World → Prop} (hs : Sim Hy X B St w0 K K')
    (hk : opK P Hy tt cls ops.toList o s K) : wpOp P ops Q i K' a w := by
  unfold wpOp
  simp only [ho]
  unfold opK at hk
  split at hk
  · rename_i hg
    rw [if_pos (by simp [Region.wanted, hg])]
    exact .inl (op1_ok hT h hs hk)
  · rename_i g want hg
    split at hk
    · rename_i t ht
      obtain ⟨htn, hk⟩ := hk
      have ht2 : (ops[g]?).bind (·.dst) = some t := by simpa using ht
      have hl : t < a.tmps.size := by rw [h.sz]; exact htn
      have htm := h.tm t _ (Array.getElem?_eq_getElem hl)
      split at hk
      · rename_i q e
        rw [e] at htm
        have hq := htm.bool
        have hy : yielded ops a.tmps g = some q := by
          unfold yielded
          simp only [ht2, Option.bind_some, Array.getElem?_eq_getElem hl, hq]
        by_cases hw : q = want
        · rw [if_pos (by simp [Region.wanted, hg, hy, hw])]
          exact .inl (op1_ok hT h hs (hk.1 hw))
        · rw [if_neg (by simp [Region.wanted, hg, hy, hw])]
          refine hs _ ι _ _ (h.pure _ _ _ (fun _ => .tup #[] [] (fun _ => undef) rfl (fun j hj => absurd hj (Nat.not_lt_zero j)) (fun j x hx => by simp at hx))) (hk.2 ?_)
          cases q <;> cases want <;> simp_all
      · rename_i e
        rw [e] at htm
        have hy : yielded ops a.tmps g = none := by
          unfold yielded
          simp only [ht2, Option.bind_some, Array.getElem?_eq_getElem hl]
          obtain ⟨cs, hv⟩ := htm.tup0
          simp only [hv]
        rw [if_neg (by simp [Region.wanted, hg, hy])]
        exact hs _ ι _ _ (h.pure _ _ _ (fun _ => .tup #[] [] (fun _ => undef) rfl (fun j hj => absurd hj (Nat.not_lt_zero j)) (fun j x hx => by simp at hx))) hk
      · exact hk.elim
    · exact hk.elim

theorem runI_ok (hT : Tys.ok P tt) {Q : Exit → Act → World → Prop} {ops : Array Oper} : ∀ (l : List Nat) {s : S} {ι : Nat → Value} {a : Act} {w : World} {K : S → Prop}, Rel Hy X B St w0 s ι a w → Sim Hy X B St w0 K (Q .normal) → runI P Hy tt cls ops l s K → wpOps P ops Q l a w
  | [], s, ι, a, w, K, h, hs, hk => hs _ _ _ _ h hk
  | i :: l, s, ι, a, w, K, h, hs, hk => by
    rw [wpOps_cons]
    unfold runI at hk
    cases ho : ops[i]? with
    | none =>
      rw [ho] at hk
      unfold wpOp
      simp only [ho]
      exact runI_ok hT l h hs hk
    | some o =>
      rw [ho] at hk
      exact opK_ok hT h ho (fun s' ι' a' w' h' hk' => runI_ok hT l h' hs hk') hk

theorem runK_ok (hT : Tys.ok P tt) {Q : Exit → Act → World → Prop} (ops : Array Oper) : ∀ (n k : Nat) {s : S} {ι : Nat → Value} {a : Act} {w : World} {K : S → Prop}, k + n = ops.size → Rel Hy X B St w0 s ι a w → Sim Hy X B St w0 K (Q .normal) →
    runK P Hy tt cls ops.toList (ops.toList.drop k) s K → wpOps P ops Q ((List.range n).map (k + ·)) a w
  | 0, k, s, ι, a, w, K, hk, h, hs, hr => by
    rw [List.drop_eq_nil_of_le (by simp; omega)] at hr
    exact hs _ _ _ _ h hr
  | n + 1, k, s, ι, a, w, K, hk, h, hs, hr => by
    have hlt : k < ops.size := by omega
    rw [List.range_succ_eq_map, List.map_cons, List.map_map, wpOps_cons, Nat.add_zero]
    rw [List.drop_eq_getElem_cons (by simpa using hlt)] at hr
    have : ((k + ·) ∘ Nat.succ : Nat → Nat) = ((k + 1) + ·) := by funext j; simp; omega
    rw [this]
    exact opK_ok hT h (Array.getElem?_eq_getElem hlt) (fun s' ι' a' w' h' hk' => runK_ok hT ops n (k + 1) (by omega) h' hs hk') hr

end
end Go.Proofs.Ytpbfkpdfodmcaaa
