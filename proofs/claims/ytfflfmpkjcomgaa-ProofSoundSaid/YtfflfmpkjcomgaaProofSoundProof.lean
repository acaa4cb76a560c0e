/- ProofSound: for every input the law returns true, and what it was handed reads as it did. No condition. -/
import Derived.Test.YtfflfmpkjcomgaaH47
import Derived.Test.YtfflfmpkjcomgaaO3
import Derived.Test.YtfflfmpkjcomgaaChecked
import Derived.Test.YtfflfmpkjcomgaaRows
import Derived.Test.YtfflfmpkjcomgaaPost
import Derived.Test.YtfflfmpkjcomgaaStay
import Derived.ChangeSame
import Derived.ChangeMaps5
import Derived.JoinedOf
import Derived.JoinedAt
import Derived.RowKit3
import Derived.ProofKit
import Derived.OpenShut
import Derived.HandedShaped

namespace Go.Proofs.Ytfflfmpkjcomgaa
open Go.ChangeShapes Go.WideShapes Go.ChangeAt Go.RowKit
namespace proofSoundP

theorem own : ownKnob Try.prog.godebug = none := by kernel_rfl

set_option maxRecDepth 100000 in
theorem contract (H : Type) (enc : TypeId × Value → H) (W : World) (base : Nat) (args : Array Value) (ds gs : List (DataW H)) (before : List MemPlace)
    (hval : ∀ (j : Nat) t v, Try.f6.params[j]? = some t → args[j]? = some v → Value.okWide Try.prog W .any base t v)
    (hW : DataW.Whole enc Try.prog Try.f6.params.toList Rows.proofSoundSpec.vars false W args.toList ds gs before) :
    Calls Try.prog 6 args W fun e W' => ∃ v, e = .returned v ∧ Rows.proofSoundSpec.post enc Try.prog Try.f6 false true false false W args v W' := by
  have hW' := hW
  obtain ⟨p, q, hA0, hV, rfl, hfz, hnd⟩ := hW
  have hA : DataW.TrodAll enc Try.prog W 0 (fun _ => true) true Try.f6.params.toList args.toList ds p := hA0
  rw [Try.params6] at hA hval
  obtain ⟨v0, vs0, d0, ds0, q0, u0, hargs, rfl, rfl, h0, r0⟩ := trodAll_cons hA
  obtain ⟨v1, vs1, d1, ds1, q1, u1, e1, rfl, rfl, h1, r1⟩ := trodAll_cons r0
  subst e1
  obtain ⟨v2, vs2, d2, ds2, q2, u2, e2, rfl, rfl, h2, r2⟩ := trodAll_cons r1
  subst e2
  obtain ⟨rfl, rfl, rfl⟩ := trodAll_nil r2
  obtain rfl : args = #[v0, v1, v2] := by cases args; simp_all
  obtain ⟨rfl, rfl⟩ := trodVars_none hV
  obtain ⟨a0, p0, w0⟩ := (o_cls (enc := enc) (W := W) (Bw := (fun _ => True))).sl Try.underlying22 (by kernel_rfl) (hval 0 22 v0 rfl rfl) h0 (fun _ _ => trivial)
  obtain ⟨a1, p1, w1⟩ := Opn.int (enc := enc) Try.underlying3 (by kernel_rfl) (hval 1 3 v1 rfl rfl) h1
  obtain ⟨a2, p2, w2⟩ := (o_cls (enc := enc) (W := W) (Bw := (fun _ => True))).sl Try.underlying22 (by kernel_rfl) (hval 2 22 v2 rfl rfl) h2 (fun _ _ => trivial)
  clear hA0
  refine (law_calls (proofSound_ct (fun _ => True) a0 a1 a2) #[v0, v1, v2] rfl (fun j v t hv ht => by
    match j with
    | 0 => cases hv; cases ht; exact w0
    | 1 => cases hv; cases ht; exact w1
    | 2 => cases hv; cases ht; exact w2
    | j + 3 => simp at hv)).mono fun e W' ⟨he, hb⟩ => ?_
  subst he
  exact ⟨_, rfl, law_post_any hW' (by kernel_rfl) (by kernel_rfl) (by kernel_rfl) (fun t ht => of_decide_eq_true (List.all_eq_true.1 (show (Try.f6.params.toList.all fun t => decide (t < Try.prog.types.size)) = true by kernel_rfl) t ht)) rfl Try.underlying4 rfl rfl rfl rfl hb⟩

set_option maxRecDepth 100000 in
theorem lifted (os : Os) (started : os.Started) (H : Type) (enc : TypeId × Value → H) :
    ReturnsInHanded {} Try.checked os 6 .any (Rows.proofSoundSpec.pre6 enc Try.prog Try.f6 Rows.proofSoundRow.domain false) (Rows.proofSoundSpec.post enc Try.prog Try.f6 false true false false) := by
  refine returnsInHanded_of_change (C := Try.checked) own started (by kernel_rfl) Try.func6
    (ChangeSpec.witness6 (enc := enc) (C := Try.checked) false ⟨#[], #[.slice none 0 0, .int .i64 0, .slice none 0 0], []⟩ 8 (by kernel_rfl) (by kernel_rfl) (by kernel_rfl) (by kernel_rfl)) ?_
  intro W base args ds gs before hval hW _ _
  exact contract H enc W base args ds gs before hval hW

end proofSoundP
open proofSoundP in
theorem proofSound_holds : Rows.ProofSoundSaid :=
  OpenClaim.holds_of_wide 6 Try.f6 rfl rfl rfl rfl rfl rfl rfl ⟨rfl, rfl, rfl, rfl, rfl⟩ rfl rfl rfl rfl rfl (by kernel_rfl) Try.func6 (by kernel_rfl)
    (of_decide_eq_true (by kernel_rfl)) (by unfold Func.isWrapper; first | (rw [if_pos (by decide +kernel)]; kernel_rfl) | (rw [if_neg (by decide +kernel)]; exact ⟨rfl, rfl⟩))
    (fun os started H enc _ => lifted os started H enc)
end Go.Proofs.Ytfflfmpkjcomgaa
