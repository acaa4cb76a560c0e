import Derived.Test.YtfflfmpkjcomgaaShelf
import Derived.Lib.SortBridge
import Derived.WalkKit
import Derived.Test.YtfflfmpkjcomgaaTys
import Derived.Test.YtfflfmpkjcomgaaEng20
namespace Go.Proofs.Ytfflfmpkjcomgaa
open Go.RowKit Go.Shelf Go.Lib Go.Sort
set_option maxRecDepth 100000
/-- by what is sorted: a literal's variable -/
def kyS (x : Int) : Int := max x (wrap64 (-x))
def cfS (x y : Int) : Int := Lib.compareInt (kyS x) (kyS y)
theorem ltS (x y : Int) : ltOf cfS x y = decide (kyS x < kyS y) := by
  unfold ltOf cfS Lib.compareInt
  by_cases h1 : kyS x < kyS y
  · simp [h1]
  · by_cases h2 : kyS y < kyS x <;> simp [h1, h2]
theorem swoS : SWO (ltOf cfS) where
  irrefl x := by rw [ltS]; simp
  trans x y z h1 h2 := by rw [ltS] at *; simp at *; omega
  ntrans x y z h1 h2 := by rw [ltS] at *; simp at *; omega
set_option maxHeartbeats 1000000 in
theorem closureS (x y : Int) (W : World) : Calls Try.prog 28 #[.int .i64 x, .int .i64 y] W fun e w' => e = .returned (.int .i64 (cfS x y)) ∧ ∃ q, w' = W.drewN q := by
  have hcon := AnyG.cmp_Compare_int Try.cmpL (kyS x) (kyS y) W
  change Calls Try.prog 29 _ _ _ at hcon
  unfold cfS
  generalize Lib.compareInt (kyS x) (kyS y) = r at hcon ⊢
  unfold kyS at hcon
  go_enter Try.func28, Try.ntmps28
  go_wp2_with (go_at_call 29; refine hcon.mono ?_; rintro e w' ⟨rfl, rfl⟩)
  go_ret
  exact ⟨rfl, 0, rfl⟩
end Go.Proofs.Ytfflfmpkjcomgaa
namespace Go.Proofs.Ytfflfmpkjcomgaa
open Go.RowKit Go.Shelf Go.Lib Go.Sort
set_option maxRecDepth 100000
variable (Hy : World → Prop)
theorem mapI (l : List Int) : (l.map fun x => [T.i .i64 x]).flatten = l.map (T.i .i64) := by
  induction l with
  | nil => rfl
  | cons x l ih => simp [ih]
theorem sorted_heap {w : World} {gb q : Nat} {d : Array Int} {os : Array Obj} {cur : Array Value} {ty : TypeId} {n : Nat} (hgb : w.heap[gb]? = some (.cells cur ty (0, 0))) (hd : d.size = n) (hn : n ≤ cur.size) :
    (∀ b, b < w.heap.size → b ≠ gb → (sortWorld (Value.int .i64) w gb 0 q d os).heap[b]? = w.heap[b]?) ∧ w.heap.size ≤ (sortWorld (Value.int .i64) w gb 0 q d os).heap.size ∧
    ∃ cur', (sortWorld (Value.int .i64) w gb 0 q d os).heap[gb]? = some (.cells cur' ty (0, 0)) ∧ cur'.size = cur.size ∧ cur'.toList.take n = d.toList.map (Value.int .i64) := by
  have hlt : gb < w.heap.size := (Array.getElem?_eq_some_iff.1 hgb).1
  have hh : ∀ b, b < w.heap.size → (sortWorld (Value.int .i64) w gb 0 q d os).heap[b]? = (w.heap.modify gb (onCells (putCells (Value.int .i64) 0 d)))[b]? := fun b hb => by
    show (w.heap.modify gb (onCells (putCells (Value.int .i64) 0 d)) ++ os)[b]? = _
    rw [Array.getElem?_append, if_pos (by simpa using hb)]
  refine ⟨fun b hb hne => ?_, ?_, putCells (Value.int .i64) 0 d cur, ?_, by simp [putCells], ?_⟩
  · rw [hh b hb, Array.getElem?_modify, if_neg (fun e => hne e.symm)]
  · show w.heap.size ≤ (w.heap.modify gb (onCells (putCells (Value.int .i64) 0 d)) ++ os).size
    simp
  · rw [hh gb hlt, Array.getElem?_modify, if_pos rfl, hgb]
    rfl
  · refine List.ext_getElem? fun j => ?_
    rw [List.getElem?_take, List.getElem?_map]
    split
    · rename_i hj
      have hj2 : j < d.size := by omega
      have hj3 : j < cur.size := by omega
      rw [Array.getElem?_toList, Array.getElem?_toList, Array.getElem?_eq_getElem hj2]
      unfold putCells
      rw [Array.getElem?_mapIdx, Array.getElem?_eq_getElem hj3, Option.map_some, if_pos ⟨Nat.zero_le _, by omega⟩, Nat.sub_zero, getElem!_pos d j hj2]
      rfl
    · rename_i hj
      rw [Array.getElem?_toList, Array.getElem?_eq_none (by omega)]
      rfl
set_option maxHeartbeats 1000000 in
theorem sort_cm {o : Nat → O} {id g : Nat} {l : List Int} (ho : o id = ⟨g, .row 3 1 (l.map fun x => [.i .i64 x])⟩) (hl : l.length ≤ 1000000) :
    Cm Try.prog Hy 27 [.row id g, .fn 28 [] []] o fun rs o' => rs = [] ∧ ∃ l' : List Int, l'.Perm l ∧ l'.Pairwise (fun x y => kyS x ≤ kyS y) ∧ o' = obx o id ⟨g, .row 3 1 (l'.map fun x => [.i .i64 x])⟩ := by
  refine ⟨⟨_, Try.func27, by decide, fun e => absurd (congrArg Option.isSome e) (by decide)⟩, fun X B St w0 ι w cargs hM hs ha => ?_⟩
  have hg : g = (o id).gen := by rw [ho]
  have hob := hM.ob id
  rw [ho] at hob
  obtain ⟨_, xs, hown, hxs⟩ := hob
  rw [List.length_map] at hown
  obtain ⟨cl⟩ := cargs
  match cl, hs with
  | [u1, u2], _ =>
    have hu1 := (ha 0 u1 _ rfl rfl).row_get hg
    obtain ⟨cs, ds, hu2, hcs, hds⟩ := (ha 1 u2 _ rfl rfl).fn_get
    obtain rfl : cs = #[] := Array.eq_empty_of_size_eq_zero hcs.1
    obtain rfl : ds = #[] := Array.eq_empty_of_size_eq_zero hds.1
    subst hu1 hu2
    have hxe : xs = l.map (Value.int .i64) := List.ext_getElem? fun j => by
      cases hj : l[j]? with
      | none =>
        have h1 := List.getElem?_eq_none_iff.1 hj
        rw [List.getElem?_eq_none (by rw [hown.1]; omega), List.getElem?_map, hj]
        rfl
      | some x =>
        obtain ⟨c, hc, _, hr⟩ := hxs j (.i .i64 x) (by rw [mapI, List.getElem?_map, hj]; rfl)
        rw [hc, List.getElem?_map, hj]
        cases hr
        rfl
    have nop : ∀ (w : World) (D : Nat → Prop) (o : Nat → O) (ι : Nat → Value), RresM w D o ι (.tuple #[]) [] := fun w D o ι => ⟨#[], fun _ => undef, rfl, rfl, fun j hj => absurd hj (Nat.not_lt_zero j), fun j x hx => by simp at hx⟩
    rcases hown.2 with ⟨hv, hn⟩ | ⟨gb, cap, cur, hv, hB, hgb, hncap, hcap, hsz, htk⟩
    · obtain rfl : l = [] := List.length_eq_zero_iff.1 hn
      have hS := AnyF.slices_SortFunc_none (P := Try.prog) (ρ := Try.sortL_ren) { Try.sortL with } none 0 (.func (.func 28) #[] #[]) w
      change Calls Try.prog 27 _ _ _ at hS
      rw [hv]
      refine hS.mono ?_
      rintro e w' ⟨rfl, rfl⟩
      refine ⟨_, ι, o, [], rfl, ⟨rfl, [], List.Perm.refl _, .nil, ?_⟩, hM, nop _ _ _ _⟩
      funext j
      unfold obx
      split
      · rename_i hj
        rw [hj, ho]
      · rfl
    · have hown' := hown
      rw [hv] at hown'
      have hlt : gb < w.heap.size := (Array.getElem?_eq_some_iff.1 hgb).1
      have hH : Holds (Value.int .i64) w gb 0 l.toArray := fun j hj => by
        have hj' : j < l.length := by simpa using hj
        refine ⟨?_, by rw [Nat.zero_add]; exact hown'.frozenAt j⟩
        rw [Nat.zero_add, hown'.cellAt j (by omega), hxe, List.getElem?_map, List.getElem?_eq_getElem hj']
        simp [hj']
      have eg : ∀ args w, (callFunc 28 args).run Try.prog w = .ok (.enter 28 args) w := enters_of Try.func28 (by kernel_rfl) rfl
      have hr : CmpReads Try.prog 28 #[] (Value.int .i64) cfS gb 0 l.toArray.size w := fun _ _ _ _ x y => closureS x y _
      have hS := Any.slices_SortFunc Try.sortL (Value.int .i64) (fun _ => rfl) cfS swoS 28 #[] gb 0 cap l.toArray w eg hr.lays hH hlt (by simp; omega)
      change Calls Try.prog 27 _ _ _ at hS
      rw [hv]
      rw [show l.toArray.size = l.length by simp] at hS
      refine hS.mono ?_
      rintro e w' ⟨rfl, d', q, os, hp, hst, rfl⟩
      have hd : d'.size = l.length := by rw [hp.1]; simp
      have hperm : d'.toList.Perm l := by
        have := hp.2.2
        rwa [show (d'.extract 0 l.length).toList = d'.toList by rw [← hd]; simp, show (l.toArray.extract 0 l.length).toList = l by simp] at this
      have hlen : d'.toList.length = l.length := hperm.length_eq
      have hsrt : d'.toList.Pairwise fun x y => kyS x ≤ kyS y := by
        rw [List.pairwise_iff_getElem]
        intro i j hi hj hij
        have hi' : i < d'.size := by simpa using hi
        have hj' : j < d'.size := by simpa using hj
        have := hst i j (Nat.zero_le _) hij (by omega)
        rw [ltS, getElem!_pos d' i hi', getElem!_pos d' j hj'] at this
        have := of_decide_eq_false this
        simp only [Array.getElem_toList]
        omega
      obtain ⟨h1, h2, cur', h3, h4, h5⟩ := sorted_heap (q := q) (os := os) (d := d') hgb hd (by omega)
      generalize hw' : sortWorld (Value.int .i64) w gb 0 q d' os = w' at *
      have hbl : Below B w w' := ⟨by rw [← hw']; rfl, by rw [← hw']; rfl, by rw [← hw']; rfl, h2, fun b hb => h1 b (Nat.lt_of_lt_of_le hb hM.hB) (by omega)⟩
      have hmb : mb o ι id = some gb := by unfold mb; rw [ho, hv]; rfl
      have hR := Rel.next hM.rel id ⟨g, .row 3 1 (d'.toList.map fun x => [.i .i64 x])⟩ (ι id) none .junk undef hbl (fun _ _ => rfl) rfl (Nat.le_of_eq hg.symm) (fun _ => rfl)
        (fun b hb hne => h1 b hb (fun e => hne (by rw [e]; exact hmb))) (fun b e => .inl (by
          unfold mb at e ⊢
          rw [show (S.ob ⟨0, fun _ => .junk, o⟩ id ⟨g, .row 3 1 (d'.toList.map fun x => [.i .i64 x])⟩).o id = ⟨g, .row 3 1 (d'.toList.map fun x => [.i .i64 x])⟩ from if_pos rfl] at e
          rw [show (⟨0, fun _ => .junk, o⟩ : S).o id = o id from rfl, ho]
          exact e))
        (fun mT mA => by
          refine ⟨fun e he => ?_, d'.toList.map (Value.int .i64), ⟨by simp [hlen], .inr ⟨gb, cap, cur', by rw [List.length_map, hlen]; exact hv, hB, h3, by simp; omega, hcap, by omega, by simp only [List.length_map, hlen, Nat.mul_one]; exact h5⟩⟩, fun j y hy => ?_⟩
          · obtain ⟨x, _, rfl⟩ := List.mem_map.1 he
            rfl
          · rw [mapI, List.getElem?_map] at hy
            cases hj : d'.toList[j]? with
            | none => rw [hj] at hy; cases hy
            | some x =>
              rw [hj] at hy
              cases hy
              exact ⟨.int .i64 x, by rw [List.getElem?_map, hj]; rfl, rfl, .i _ _⟩)
        (fun _ _ hne => absurd rfl hne)
      exact ⟨_, ι, _, [], rfl, ⟨rfl, d'.toList, hperm, hsrt, rfl⟩, hR.mem, nop _ _ _ _⟩
end Go.Proofs.Ytfflfmpkjcomgaa
