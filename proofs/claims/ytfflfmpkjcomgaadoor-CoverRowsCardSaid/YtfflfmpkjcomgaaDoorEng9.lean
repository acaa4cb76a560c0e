/- The engine, 9: operations one behind the other. -/
import Derived.Test.YtfflfmpkjcomgaaDoorEngF
namespace Go.Proofs.YtfflfmpkjcomgaaDoor
open Go.RowKit

section
variable {P : Program} {tt : Tys} {Hy : World → Prop} {X : World → (Nat → Prop) → (Nat → O) → (Nat → Value) → Prop} {cls : Nat → Nat} {B : Nat} {St : Nat → Prop} {Dp : List Deferred → Prop} {w0 w : World} {s : S} {ι : Nat → Value} {a : Act}

/-- what is so of states is so of memory -/
def Sim (Hy : World → Prop) (X : World → (Nat → Prop) → (Nat → O) → (Nat → Value) → Prop) (B : Nat) (St : Nat → Prop) (w0 : World) (Dp : List Deferred → Prop) (K : S → Prop) (K' : Act → World → Prop) : Prop := ∀ s ι a w, Rel Hy X B St w0 Dp s ι a w → K s → K' a w

theorem Ra.tup0 {w : World} {D : Nat → Prop} {o : Nat → O} {ι : Nat → Value} {v : Value} (h : Ra w D o ι v (.tup [])) : ∃ cs, v = .tuple cs := by
  cases h
  exact ⟨_, rfl⟩
theorem op1_nd {o : Oper} {K : S → Prop} (hk : op1 P Hy tt cls o s K) : ∀ c, o.op ≠ .defer c := fun c e => by
  unfold op1 at hk
  rw [e] at hk
  exact hk.elim
theorem opK_ok {ro : Option Nat} {n : Nat} (hT : Tys.ok P tt) (h : Rel Hy X B St w0 Dp s ι a w) {Q : Exit → Act → World → Prop} {ops : Array Oper} {i : Nat} {o : Oper} (ho : ops[i]? = some o) {K : S → Prop} {K' : Act → World → Prop} (hs : Sim Hy X B St w0 Dp K K')
    (hk : opK P Hy tt cls ops.toList o s K) : wpOpIn (FW ro) n P ops Q i K' a w := by
  unfold wpOpIn
  simp only [ho]
  unfold opK at hk
  split at hk
  · rename_i hg
    rw [if_pos (by simp [Region.wanted, hg])]
    exact wp_in (op1_nd hk) (op1_ok hT h hs hk)
  · rename_i g want hg
    split at hk
    · rename_i t ht
      obtain ⟨htn, hk⟩ := hk
      have ht2 : (ops[g]?).bind (·.dst) = some t := by simpa using ht
      have hl : t < a.tmps.size := by rw [h.sz]; exact htn
      have htm := h.tm t _ (Array.getElem?_eq_getElem hl)
      split at hk
      · rename_i q e
        rw [e] at htm
        have hq := htm.bool
        have hy : yielded ops a.tmps g = some q := by
          unfold yielded
          simp only [ht2, Option.bind_some, Array.getElem?_eq_getElem hl, hq]
        by_cases hw : q = want
        · rw [if_pos (by simp [Region.wanted, hg, hy, hw])]
          exact wp_in (op1_nd (hk.1 hw)) (op1_ok hT h hs (hk.1 hw))
        · rw [if_neg (by simp [Region.wanted, hg, hy, hw])]
          refine ⟨fun f _ => FW_fn f, ?_⟩
          refine hs _ ι _ _ (h.pure _ _ _ (fun _ => .tup #[] [] (fun _ => undef) rfl (fun j hj => absurd hj (Nat.not_lt_zero j)) (fun j x hx => by simp at hx))) (hk.2 ?_)
          cases q <;> cases want <;> simp_all
      · rename_i e
        rw [e] at htm
        have hy : yielded ops a.tmps g = none := by
          unfold yielded
          simp only [ht2, Option.bind_some, Array.getElem?_eq_getElem hl]
          obtain ⟨cs, hv⟩ := htm.tup0
          simp only [hv]
        rw [if_neg (by simp [Region.wanted, hg, hy])]
        refine ⟨fun f _ => FW_fn f, ?_⟩
        exact hs _ ι _ _ (h.pure _ _ _ (fun _ => .tup #[] [] (fun _ => undef) rfl (fun j hj => absurd hj (Nat.not_lt_zero j)) (fun j x hx => by simp at hx))) hk
      · exact hk.elim
    · exact hk.elim

end
end Go.Proofs.YtfflfmpkjcomgaaDoor
