/- AigNormal: for every input the law returns true, and what it was handed reads as it did. No condition. -/
import Derived.Test.YtpbfkpdfodmcaaaG24
import Derived.Test.YtpbfkpdfodmcaaaO2
import Derived.Test.YtpbfkpdfodmcaaaChecked
import Derived.Test.YtpbfkpdfodmcaaaRows
import Derived.Test.YtpbfkpdfodmcaaaPost
import Derived.Test.YtpbfkpdfodmcaaaStay
import Derived.ChangeSame
import Derived.ChangeMaps5
import Derived.JoinedOf
import Derived.JoinedAt
import Derived.RowKit3
import Derived.ProofKit
import Derived.OpenShut
import Derived.HandedShaped
import Derived.SizedLaws
namespace Go.Proofs.Ytpbfkpdfodmcaaa
open Go.ChangeShapes Go.WideShapes Go.ChangeAt Go.RowKit
namespace aigNormalP

theorem own : ownKnob Try.prog.godebug = none := by kernel_rfl

set_option maxRecDepth 100000 in
theorem contract (H : Type) (enc : TypeId × Value → H) (W : World) (base : Nat) (args : Array Value) (ds gs : List (DataW H)) (before : List MemPlace)
    (hval : ∀ (j : Nat) t v, Try.f6.params[j]? = some t → args[j]? = some v → Value.okWide Try.prog W .any base t v)
    (hW : DataW.Whole enc Try.prog Try.f6.params.toList Rows.aigNormalSpec.vars false W args.toList ds gs before) (hsz0 : (DataW.weightsEach Try.prog (Try.f6.params.toList ++ Rows.aigNormalSpec.plain.varTypes Try.prog) (ds ++ gs)).all (· ≤ reachBytes) = true) :
    Calls Try.prog 6 args W fun e W' => ∃ v, e = .returned v ∧ Rows.aigNormalSpec.post enc Try.prog Try.f6 false true false false W args v W' := by
  have hW' := hW
  obtain ⟨p, q, hA0, hV, rfl, hfz, hnd⟩ := hW
  have hA : DataW.TrodAll enc Try.prog W 0 (fun _ => true) true Try.f6.params.toList args.toList ds p := hA0
  rw [Try.params6] at hA hval
  have hsz : (DataW.weightsEach Try.prog (Try.f6.params.toList ++ Rows.aigNormalSpec.plain.varTypes Try.prog) (ds ++ gs)).all (· ≤ reachBytes) = true := hsz0
  rw [Try.params6] at hsz
  obtain ⟨v0, vs0, d0, ds0, q0, u0, hargs, rfl, rfl, h0, r0⟩ := trodAll_cons hA
  obtain ⟨v1, vs1, d1, ds1, q1, u1, e1, rfl, rfl, h1, r1⟩ := trodAll_cons r0
  subst e1
  obtain ⟨v2, vs2, d2, ds2, q2, u2, e2, rfl, rfl, h2, r2⟩ := trodAll_cons r1
  subst e2
  obtain ⟨rfl, rfl, rfl⟩ := trodAll_nil r2
  obtain rfl : args = #[v0, v1, v2] := by cases args; simp_all
  obtain ⟨rfl, rfl⟩ := trodVars_none hV
  obtain ⟨a0, p0, w0⟩ := (o_g (enc := enc) (W := W) (Bw := (· ≤ reachBytes))).ag Try.underlying25 (hval 0 25 v0 rfl rfl) h0 (fun q hq => by have := List.all_eq_true.1 hsz q (DataW.weights_mem_each (j := 0) (t := 25) rfl rfl q hq); simpa using this)
  obtain ⟨a1, p1, w1⟩ := (o_bools (enc := enc) (W := W) (Bw := (· ≤ reachBytes))).sl Try.underlying33 (by kernel_rfl) (hval 1 33 v1 rfl rfl) h1 (fun q hq => by have := List.all_eq_true.1 hsz q (DataW.weights_mem_each (j := 1) (t := 33) rfl rfl q hq); simpa using this)
  obtain ⟨a2, p2, w2⟩ := (o_bools (enc := enc) (W := W) (Bw := (· ≤ reachBytes))).sl Try.underlying33 (by kernel_rfl) (hval 2 33 v2 rfl rfl) h2 (fun q hq => by have := List.all_eq_true.1 hsz q (DataW.weights_mem_each (j := 2) (t := 33) rfl rfl q hq); simpa using this)
  clear hA0
  refine (law_calls (aigNormal_ct (fun _ => True) a0 a1 a2 (small_of p0) (wfS_len p1 (by decide +kernel)) (wfS_len p2 (by decide +kernel))) #[v0, v1, v2] rfl (fun j v t hv ht => by
    match j with
    | 0 => cases hv; cases ht; exact w0
    | 1 => cases hv; cases ht; exact w1
    | 2 => cases hv; cases ht; exact w2
    | j + 3 => simp at hv)).mono fun e W' ⟨he, hb⟩ => ?_
  subst he
  exact ⟨_, rfl, law_post_any hW' (by kernel_rfl) (by kernel_rfl) (by kernel_rfl) (fun t ht => of_decide_eq_true (List.all_eq_true.1 (show (Try.f6.params.toList.all fun t => decide (t < Try.prog.types.size)) = true by kernel_rfl) t ht)) rfl Try.underlying4 rfl rfl rfl rfl hb⟩

set_option maxRecDepth 100000 in
theorem lifted (os : Os) (started : os.Started) (H : Type) (enc : TypeId × Value → H) :
    ReturnsInHanded {} Try.checked os 6 .any (Rows.aigNormalSpec.pre6 enc Try.prog Try.f6 Rows.aigNormalRow.domain false) (Rows.aigNormalSpec.post enc Try.prog Try.f6 false true false false) := by
  refine returnsInHanded_of_change_sized (C := Try.checked) own started (by kernel_rfl) Try.func6
    (ChangeSpec.witness6 (enc := enc) (C := Try.checked) false ⟨#[], #[.agg #[.int .i64 0, .slice none 0 0, .slice none 0 0, .slice none 0 0, .slice none 0 0], .slice none 0 0, .slice none 0 0], []⟩ 8 (by kernel_rfl) (by kernel_rfl) (by kernel_rfl) (by kernel_rfl)) ?_
  intro W base args ds gs before hval hW _ hsz _
  exact contract H enc W base args ds gs before hval hW hsz

end aigNormalP
open aigNormalP in
theorem aigNormal_holds : Rows.AigNormalSaid :=
  OpenClaim.holds_of_wide 6 Try.f6 rfl rfl rfl rfl rfl rfl rfl ⟨rfl, rfl, rfl, rfl, rfl⟩ rfl rfl rfl rfl rfl (by kernel_rfl) Try.func6 (by kernel_rfl)
    (of_decide_eq_true (by kernel_rfl)) (by unfold Func.isWrapper; first | (rw [if_pos (by decide +kernel)]; kernel_rfl) | (rw [if_neg (by decide +kernel)]; exact ⟨rfl, rfl⟩))
    (fun os started H enc _ => lifted os started H enc)
end Go.Proofs.Ytpbfkpdfodmcaaa
