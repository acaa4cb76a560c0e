/- ProofMore: for every input the law returns true, and what it was handed reads as it did. No condition. -/
import Derived.Test.YtfflfmpkjcomgaaH49
import Derived.Test.YtfflfmpkjcomgaaO3
import Derived.Test.YtfflfmpkjcomgaaChecked
import Derived.Test.YtfflfmpkjcomgaaRows
import Derived.Test.YtfflfmpkjcomgaaPost
import Derived.Test.YtfflfmpkjcomgaaStay
import Derived.ChangeSame
import Derived.ChangeMaps5
import Derived.JoinedOf
import Derived.JoinedAt
import Derived.RowKit3
import Derived.ProofKit
import Derived.OpenShut
import Derived.HandedShaped

namespace Go.Proofs.Ytfflfmpkjcomgaa
open Go.ChangeShapes Go.WideShapes Go.ChangeAt Go.RowKit
namespace proofMoreP

theorem own : ownKnob Try.prog.godebug = none := by kernel_rfl

set_option maxRecDepth 100000 in
theorem contract (H : Type) (enc : TypeId × Value → H) (W : World) (base : Nat) (args : Array Value) (ds gs : List (DataW H)) (before : List MemPlace)
    (hval : ∀ (j : Nat) t v, Try.f7.params[j]? = some t → args[j]? = some v → Value.okWide Try.prog W .any base t v)
    (hW : DataW.Whole enc Try.prog Try.f7.params.toList Rows.proofMoreSpec.vars false W args.toList ds gs before) :
    Calls Try.prog 7 args W fun e W' => ∃ v, e = .returned v ∧ Rows.proofMoreSpec.post enc Try.prog Try.f7 false true false false W args v W' := by
  have hW' := hW
  obtain ⟨p, q, hA0, hV, rfl, hfz, hnd⟩ := hW
  have hA : DataW.TrodAll enc Try.prog W 0 (fun _ => true) true Try.f7.params.toList args.toList ds p := hA0
  rw [Try.params7] at hA hval
  obtain ⟨v0, vs0, d0, ds0, q0, u0, hargs, rfl, rfl, h0, r0⟩ := trodAll_cons hA
  obtain ⟨v1, vs1, d1, ds1, q1, u1, e1, rfl, rfl, h1, r1⟩ := trodAll_cons r0
  subst e1
  obtain ⟨v2, vs2, d2, ds2, q2, u2, e2, rfl, rfl, h2, r2⟩ := trodAll_cons r1
  subst e2
  obtain ⟨v3, vs3, d3, ds3, q3, u3, e3, rfl, rfl, h3, r3⟩ := trodAll_cons r2
  subst e3
  obtain ⟨v4, vs4, d4, ds4, q4, u4, e4, rfl, rfl, h4, r4⟩ := trodAll_cons r3
  subst e4
  obtain ⟨v5, vs5, d5, ds5, q5, u5, e5, rfl, rfl, h5, r5⟩ := trodAll_cons r4
  subst e5
  obtain ⟨rfl, rfl, rfl⟩ := trodAll_nil r5
  obtain rfl : args = #[v0, v1, v2, v3, v4, v5] := by cases args; simp_all
  obtain ⟨rfl, rfl⟩ := trodVars_none hV
  obtain ⟨a0, p0, w0⟩ := (o_cls (enc := enc) (W := W) (Bw := (fun _ => True))).sl Try.underlying22 (by kernel_rfl) (hval 0 22 v0 rfl rfl) h0 (fun _ _ => trivial)
  obtain ⟨a1, p1, w1⟩ := (o_cls (enc := enc) (W := W) (Bw := (fun _ => True))).sl Try.underlying22 (by kernel_rfl) (hval 1 22 v1 rfl rfl) h1 (fun _ _ => trivial)
  obtain ⟨a2, p2, w2⟩ := Opn.int (enc := enc) Try.underlying3 (by kernel_rfl) (hval 2 3 v2 rfl rfl) h2
  obtain ⟨a3, p3, w3⟩ := (o_cl (enc := enc) (W := W) (Bw := (fun _ => True))).sl Try.underlying31 (by kernel_rfl) (hval 3 31 v3 rfl rfl) h3 (fun _ _ => trivial)
  obtain ⟨a4, p4, w4⟩ := (o_cl (enc := enc) (W := W) (Bw := (fun _ => True))).sl Try.underlying31 (by kernel_rfl) (hval 4 31 v4 rfl rfl) h4 (fun _ _ => trivial)
  obtain ⟨a5, p5, w5⟩ := (o_cls (enc := enc) (W := W) (Bw := (fun _ => True))).sl Try.underlying22 (by kernel_rfl) (hval 5 22 v5 rfl rfl) h5 (fun _ _ => trivial)
  clear hA0
  refine (law_calls (proofMore_ct (fun _ => True) a0 a1 a2 a3 a4 a5) #[v0, v1, v2, v3, v4, v5] rfl (fun j v t hv ht => by
    match j with
    | 0 => cases hv; cases ht; exact w0
    | 1 => cases hv; cases ht; exact w1
    | 2 => cases hv; cases ht; exact w2
    | 3 => cases hv; cases ht; exact w3
    | 4 => cases hv; cases ht; exact w4
    | 5 => cases hv; cases ht; exact w5
    | j + 6 => simp at hv)).mono fun e W' ⟨he, hb⟩ => ?_
  subst he
  exact ⟨_, rfl, law_post_any hW' (by kernel_rfl) (by kernel_rfl) (by kernel_rfl) (fun t ht => of_decide_eq_true (List.all_eq_true.1 (show (Try.f7.params.toList.all fun t => decide (t < Try.prog.types.size)) = true by kernel_rfl) t ht)) rfl Try.underlying4 rfl rfl rfl rfl hb⟩

set_option maxRecDepth 100000 in
theorem lifted (os : Os) (started : os.Started) (H : Type) (enc : TypeId × Value → H) :
    ReturnsInHanded {} Try.checked os 7 .any (Rows.proofMoreSpec.pre6 enc Try.prog Try.f7 Rows.proofMoreRow.domain false) (Rows.proofMoreSpec.post enc Try.prog Try.f7 false true false false) := by
  refine returnsInHanded_of_change (C := Try.checked) own started (by kernel_rfl) Try.func7
    (ChangeSpec.witness6 (enc := enc) (C := Try.checked) false ⟨#[], #[.slice none 0 0, .slice none 0 0, .int .i64 0, .slice none 0 0, .slice none 0 0, .slice none 0 0], []⟩ 8 (by kernel_rfl) (by kernel_rfl) (by kernel_rfl) (by kernel_rfl)) ?_
  intro W base args ds gs before hval hW _ _
  exact contract H enc W base args ds gs before hval hW

end proofMoreP
open proofMoreP in
theorem proofMore_holds : Rows.ProofMoreSaid :=
  OpenClaim.holds_of_wide 7 Try.f7 rfl rfl rfl rfl rfl rfl rfl ⟨rfl, rfl, rfl, rfl, rfl⟩ rfl rfl rfl rfl rfl (by kernel_rfl) Try.func7 (by kernel_rfl)
    (of_decide_eq_true (by kernel_rfl)) (by unfold Func.isWrapper; first | (rw [if_pos (by decide +kernel)]; kernel_rfl) | (rw [if_neg (by decide +kernel)]; exact ⟨rfl, rfl⟩))
    (fun os started H enc _ => lifted os started H enc)
end Go.Proofs.Ytfflfmpkjcomgaa
