import Derived.ChangeStays
import Derived.Test.YtbhoeanfnbkenaaGreatDoorPost
namespace Go.Proofs.YtbhoeanfnbkenaaGreatDoor
open Go.RowKit Go.WideShapes Go.ChangeShapes
variable {H : Type} {enc : TypeId × Value → H} {P : Program}
theorem zhS {T : TypeId → Prop} (K : Kids P T) (hsz : ∀ {t e : TypeId}, T t → P.underlying t = some (.slice e) → 0 < P.cellsOf e) {W W' : World} {sp : Nat → Bool} :
  ∀ (ts : List TypeId) (vs : List Value) (ds : List (DataW H)) (ps : List MemPlace), (∀ t ∈ ts, T t) → DataW.TrodAll enc P W 0 (fun _ => true) true ts vs ds ps → (∀ p ∈ ps, W.sameAt W' p) → (∀ p ∈ ps, sp p.block = true) →
   DataW.TrodAll enc P W' 0 sp true ts vs ds ps
 | [], vs, ds, ps, _, h, _, _ => by
  obtain ⟨rfl, rfl, rfl⟩ := trodAll_nil h
  exact h
 | t :: ts, vs, ds, ps, ht, h, hs, hp => by
  obtain ⟨v, vs, d, ds, a, b, rfl, rfl, rfl, h1, h2⟩ := trodAll_cons h
  obtain ⟨n, h1⟩ := h1
  exact ⟨a, b, ⟨n, DataW.trod_stays K hsz (fun h => by cases h) (ht t (by simp)) h1 (fun p hq => hs p (List.mem_append_left _ hq)) (fun p hq => hp p (List.mem_append_left _ hq))⟩,
   zhS K hsz ts vs ds b (fun t h => ht t (by simp [h])) h2 (fun p hq => hs p (List.mem_append_right _ hq)) (fun p hq => hp p (List.mem_append_right _ hq)), rfl⟩
theorem zlo {W W' : World} {n : Nat} (hb : Below n W W') {p : MemPlace} (hp : p.block < n) : W.sameAt W' p := by
 cases p with
 | cell b o => exact hb.cell (p := ⟨b, o, none⟩) hp
 | map b => exact hb.block b hp
def zhT (P : Program) : Bool := (List.range P.types.size).all fun t => match P.underlying t with | some (.slice e) => decide (0 < P.cellsOf e) | _ => true
theorem zlp {P : Program} (h : zhT P = true) {t e : TypeId} (ht : t < P.types.size) (hu : P.underlying t = some (.slice e)) : 0 < P.cellsOf e := by
 have := List.all_eq_true.1 h t (List.mem_range.2 ht)
 rw [hu] at this
 simpa using this
theorem zlq {f : Func} {s : ChangeSpec} {W W' : World} {args : Array Value} {tb : TypeId} {ds gs : List (DataW H)} {before : List MemPlace}
  (hW : DataW.Whole enc P f.params.toList s.vars false W args.toList ds gs before)
  (hl : laidOutB P = true) (hm : mapsRowed P = true) (hsz : zhT P = true) (hts : ∀ t ∈ f.params.toList, t < P.types.size)
  (ht : f.resultTypes = #[tb]) (hbool : P.underlying tb = some .bool) (hv : s.vars = [])
  (hr : (s.fn H (ds ++ gs)).results = [.lit (.bool true)]) (hvn : (s.fn H (ds ++ gs)).vars = []) (ha : (s.fn H (ds ++ gs)).args = ds)
  (hb : Below W.heap.size W W') : s.post enc P f false true false false W args (.bool true) W' := by
 have hin : ∀ p ∈ before, p.block < W.heap.size := fun _ hp => hW.lt _ hp
 refine zjq hW ht hbool hv hr hvn (fun sp hsp => ?_) hb
 obtain ⟨p, q, hA, hV, rfl, hfz, hnd⟩ := hW
 rw [hv] at hV
 obtain ⟨rfl, rfl⟩ := trodVars_none hV
 rw [ha]
 simp only [List.append_nil] at hin hsp ⊢
 exact zhS (kids_rows hl hm) (zlp hsz) _ _ _ _ hts hA (fun p hp => zlo hb (hin p hp)) hsp
end Go.Proofs.YtbhoeanfnbkenaaGreatDoor
