import Derived.Below
import Derived.ChangeSame
import Derived.OpenShut
import Derived.ChangeMaps5
import Derived.ChangeShapes
import Derived.ProofKit
namespace Go.Proofs.YtbhoeanfnbkenaaGreatDoor
open Go.RowKit Go.WideShapes Go.ChangeShapes
variable {H : Type} {enc : TypeId × Value → H} {P : Program}
theorem zjq {f : Func} {s : ChangeSpec} {W W' : World} {args : Array Value} {tb : TypeId} {ds gs : List (DataW H)} {before : List MemPlace}
  (hW : DataW.Whole enc P f.params.toList s.vars false W args.toList ds gs before)
  (ht : f.resultTypes = #[tb]) (hbool : P.underlying tb = some .bool) (hv : s.vars = [])
  (hr : (s.fn H (ds ++ gs)).results = [.lit (.bool true)]) (hvn : (s.fn H (ds ++ gs)).vars = [])
  (hargs : ∀ sp : Nat → Bool, (∀ p ∈ before, sp p.block = true) → DataW.TrodAll enc P W' 0 sp true f.params.toList args.toList (s.fn H (ds ++ gs)).args before)
  (hb : Below W.heap.size W W') : s.post enc P f false true false false W args (.bool true) W' := by
 have hin : ∀ p ∈ before, p.block < W.heap.size := fun _ hp => hW.lt _ hp
 have one : ∀ (b : Nat) (sp : Nat → Bool) (hd : Bool), DataW.TrodAll enc P W' b sp hd f.resultTypes.toList ((Value.bool true).resultList f.resultTypes.size) (s.fn H (ds ++ gs)).results [] := by
  intro b sp hd
  rw [ht, hr]
  exact trodAll_cons_mk (shut_bool hbool _) trodAll_mk0
 have none' : ∀ sp : Nat → Bool, DataW.TrodVars enc P W' sp s.vars (s.fn H (ds ++ gs)).vars [] := by
  intro sp
  rw [hv, hvn]
  rfl
 have hk : W.keptBut W' (fun p => p ∈ before ∧ (p ∈ ([] : List MemPlace) ∨ p ∈ before)) := hb.frame _
 refine ⟨ds, gs, before, [], before, [], hW, one _ _ _, hargs _ (fun p hp => decide_eq_true (hin p hp)), none' _, ?_, fun hg => ?_⟩
 ·refine World.keptBut_mono (fun p hp => ⟨hp.1, ?_⟩) hk
  simpa using hp.2
 ·cases hg
end Go.Proofs.YtbhoeanfnbkenaaGreatDoor
