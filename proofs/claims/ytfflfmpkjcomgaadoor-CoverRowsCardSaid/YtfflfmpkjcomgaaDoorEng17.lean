/- The engine, 17: own rows are settled; contracts that settle them. -/
import Derived.Test.YtfflfmpkjcomgaaDoorEng16
namespace Go.Proofs.YtfflfmpkjcomgaaDoor
open Go.RowKit

section
variable {P : Program} {Hy : World → Prop} {X : World → (Nat → Prop) → (Nat → O) → (Nat → Value) → Prop} {B : Nat} {St : Nat → Prop} {Dp : List Deferred → Prop} {w0 w : World} {o o' o2 : Nat → O} {ι : Nat → Value}
theorem Ob.imp {D D' : Nat → Prop} {x : Value} {k : OK} (mT : ∀ (v : Value) (t : T), Rt w D v t → Rt w D' v t) (mA : ∀ (v : Value) (z : A), Ra w D o ι v z → Ra w D' o' ι v z) (h : Ob B w D o ι x k) : Ob B w D' o' ι x k := by
  cases k with
  | none => exact trivial
  | ro l => exact mT _ _ h
  | cells ty l =>
    obtain ⟨blk, cs, h1, h2, h3, h4, h5⟩ := h
    refine ⟨blk, cs, h1, h2, h3, h4, fun j y hy => ?_⟩
    obtain ⟨c, hc, hl, hr⟩ := h5 j y hy
    exact ⟨c, hc, hl, mA _ _ hr⟩
  | row ty z l =>
    obtain ⟨h1, xs, h2, h3⟩ := h
    refine ⟨h1, xs, h2, fun j y hy => ?_⟩
    obtain ⟨c, hc, hl, hr⟩ := h3 j y hy
    exact ⟨c, hc, hl, mT _ _ hr⟩
  | rowA ty z l =>
    obtain ⟨h1, xs, h2, h3⟩ := h
    refine ⟨h1, xs, h2, fun j y hy => ?_⟩
    obtain ⟨c, hc, hl, hr⟩ := h3 j y hy
    exact ⟨c, hc, hl, mA _ _ hr⟩
  | map ks l =>
    obtain ⟨blk, es, ck, h1, h2, h3, h4, h5, h6, h7⟩ := h
    refine ⟨blk, es, ck, h1, h2, h3, h4, h5, h6, fun j y hy => ?_⟩
    obtain ⟨c, hc, hk2, hl, hr⟩ := h7 j y hy
    exact ⟨c, hc, hk2, hl, mA _ _ hr⟩
theorem RresM.imp {D D' : Nat → Prop} {v : Value} (mA : ∀ (v : Value) (z : A), Ra w D o ι v z → Ra w D' o' ι v z) : ∀ {l : List A}, RresM w D o ι v l → RresM w D' o' ι v l
  | [], ⟨cs, c, h1, h2, h3, h4⟩ => ⟨cs, c, h1, h2, h3, fun j x hx => mA _ _ (h4 j x hx)⟩
  | [_], h => mA _ _ h
  | _ :: _ :: _, ⟨cs, c, h1, h2, h3, h4⟩ => ⟨cs, c, h1, h2, h3, fun j x hx => mA _ _ (h4 j x hx)⟩
theorem Cm.settle {f : FuncId} {args : List A} {R R' : List A → (Nat → O) → Prop} (h : Cm P Hy f args o R) (hr : ∀ rs o', R rs o' → ∃ o'', Stl o' o'' ∧ R' rs o'') : Cm P Hy f args o R' :=
  ⟨h.fn, fun X B St w0 ι w cargs hM hs ha => (h.go X B St w0 ι w cargs hM hs ha).mono (fun _ _ ⟨v, ι', o', rs, h1, h2, h3, h4⟩ => by
    obtain ⟨o'', hs, hr'⟩ := hr _ _ h2
    obtain ⟨q1, q2⟩ := hs _ _ _ _ _ _ _ h3
    exact ⟨v, ι', o'', rs, h1, hr', q1, RresM.imp q2 h4⟩)⟩
theorem Cm.pre {f : FuncId} {args : List A} {R : List A → (Nat → O) → Prop} (hs : Stl o o') (h : Cm P Hy f args o' R) : Cm P Hy f args o R :=
  ⟨h.fn, fun X B St w0 ι w cargs hM hz ha => by
    obtain ⟨q1, q2⟩ := hs _ _ _ _ _ _ _ hM
    exact h.go X B St w0 ι w cargs q1 hz (fun j v x h1 h2 => q2 _ _ (ha j v x h1 h2))⟩
/-- with one object in another way -/
def ob1 (o : Nat → O) (id : Nat) (k : OK) : Nat → O := fun j => if j = id then ⟨(o id).gen, k⟩ else o j
theorem ob1_self {id : Nat} {k : OK} : ob1 o id k id = ⟨(o id).gen, k⟩ := if_pos rfl
theorem ob1_other {id j : Nat} {k : OK} (h : j ≠ id) : ob1 o id k j = o j := if_neg h
theorem ob1_gen {id : Nat} {k : OK} (j : Nat) : (ob1 o id k j).gen = (o j).gen := by
  unfold ob1
  split
  · rename_i e; rw [e]
  · rfl
/-- a row is frozen -/
theorem Stl.ro {id : Nat} {ty : TypeId} {z : Nat} {l : List (List T)} (hk : (o id).k = .row ty z l) : Stl o (ob1 o id (.ro l)) := fun Hy X B St w0 ι w hM => by
  have hu : UpOk w B St (⟨0, fun _ => .junk, o⟩ : S) ι [(id, ⟨(o id).gen, .ro l⟩)] := fun p hp => by
    obtain rfl := List.mem_singleton.1 hp
    exact ⟨l, rfl, fun D' hd hm => row_rt hM.rel hk hd (hm _ List.mem_cons_self)⟩
  obtain ⟨k1, k2, _⟩ := hM.rel.frz hu
  refine ⟨k1.mem, fun v x hx => hx.mono (fun g hg => ⟨k2 g hg, rfl⟩) (fun i => ?_)⟩
  rw [ob1_gen]
  exact ⟨Nat.le_refl _, fun _ => rfl⟩
theorem Stl.ch {id : Nat} {k : OK} (hm : ∀ ι, mb (ob1 o id k) ι id = mb o ι id) (hob : ∀ B w D ι, (∀ j, Ob B w D o ι (ι j) (o j).k) → Ob B w D o ι (ι id) k) : Stl o (ob1 o id k) := fun Hy X B St w0 ι w hM => by
  have hmb : ∀ j, mb (ob1 o id k) ι j = mb o ι j := fun j => by
    by_cases h : j = id
    · rw [h, hm]
    · unfold mb; rw [ob1_other h]
  have hk : ∀ g, Sd B St o ι w g → Sd B St (ob1 o id k) ι w g ∧ w.heap[g]? = w.heap[g]? := fun g hg => ⟨⟨hg.1, hg.2.1, fun i => by rw [hmb]; exact hg.2.2 i⟩, rfl⟩
  have hgs : ∀ i, (o i).gen ≤ (ob1 o id k i).gen ∧ ((o i).gen = (ob1 o id k i).gen → ι i = ι i) := fun i => by
    rw [ob1_gen]
    exact ⟨Nat.le_refl _, fun _ => rfl⟩
  have mT : ∀ (v : Value) (t : T), Rt w (Sd B St o ι w) v t → Rt w (Sd B St (ob1 o id k) ι w) v t := fun v t ht => ht.mono hk
  have mA : ∀ (v : Value) (z : A), Ra w (Sd B St o ι w) o ι v z → Ra w (Sd B St (ob1 o id k) ι w) (ob1 o id k) ι v z := fun v z hz => hz.mono hk hgs
  refine ⟨⟨hM.below, hM.hB, fun j => ?_, fun i j b e1 e2 => ?_, hM.stB, hM.hy, (by obtain ⟨N, _, n2⟩ := hM.xc; exact n2 _ _ _ _ _ _ _ _ mT mA (Nat.le_refl _) (fun _ _ _ _ e => e) hM.x), hM.xc⟩, mA⟩
  · by_cases h : j = id
    · subst h
      rw [ob1_self]
      exact (hob B w _ ι hM.ob).imp mT mA
    · rw [ob1_other h]
      exact (hM.ob j).imp mT mA
  · rw [hmb] at e1 e2
    exact hM.inj _ _ _ e1 e2
/-- a handle of a frozen row is that row -/
def Chg (o : Nat → O) (x x' : A) : Prop := x = x' ∨ ∃ id g m, x = .row id g ∧ g = (o id).gen ∧ (o id).k = .ro m ∧ x' = .t (.sl m)
theorem Chg.ra {D : Nat → Prop} {x x' : A} {v : Value} (hob : ∀ j, Ob B w D o ι (ι j) (o j).k) (h : Chg o x x') (hr : Ra w D o ι v x) : Ra w D o ι v x' := by
  rcases h with rfl | ⟨id, g, m, rfl, hg, hk, rfl⟩
  · exact hr
  · rw [hr.row_get hg]
    have := hob id
    rw [hk] at this
    exact .t this
theorem Chg.leaf {x x' : A} (h : Chg o x x') (hx : x.leaf = true) : x'.leaf = true := by
  rcases h with rfl | ⟨id, g, m, rfl, hg, hk, rfl⟩
  · exact hx
  · rfl
theorem Stl.rowA {id : Nat} {e : TypeId} {z : Nat} {l l' : List (List A)} (hk : (o id).k = .rowA e z l) (hl : l'.length = l.length) (hz : (∀ x ∈ l, x.length = z) → ∀ x ∈ l', x.length = z)
    (hc : ∀ (j : Nat) x', l'.flatten[j]? = some x' → ∃ x, l.flatten[j]? = some x ∧ Chg o x x') : Stl o (ob1 o id (.rowA e z l')) :=
  Stl.ch (fun ι => by unfold mb; rw [ob1_self, hk]) (fun B w D ι hob => by
    have h := hob id
    rw [hk] at h
    obtain ⟨h1, xs, h2, h3⟩ := h
    refine ⟨hz h1, xs, by rw [hl]; exact h2, fun j y hy => ?_⟩
    obtain ⟨x, hx, hcg⟩ := hc j y hy
    obtain ⟨c, c1, c2, c3⟩ := h3 j x hx
    exact ⟨c, c1, hcg.leaf c2, hcg.ra hob c3⟩)
theorem Stl.cells {id : Nat} {ty : TypeId} {l l' : List A} (hk : (o id).k = .cells ty l) (hl : l'.length = l.length) (hc : ∀ (j : Nat) x', l'[j]? = some x' → ∃ x, l[j]? = some x ∧ Chg o x x') : Stl o (ob1 o id (.cells ty l')) :=
  Stl.ch (fun ι => by unfold mb; rw [ob1_self, hk]) (fun B w D ι hob => by
    have h := hob id
    rw [hk] at h
    obtain ⟨blk, cs, h1, h2, h3, h4, h5⟩ := h
    refine ⟨blk, cs, h1, h2, h3, h4.trans hl.symm, fun j y hy => ?_⟩
    obtain ⟨x, hx, hcg⟩ := hc j y hy
    obtain ⟨c, c1, c2, c3⟩ := h5 j x hx
    exact ⟨c, c1, hcg.leaf c2, hcg.ra hob c3⟩)
/-- the last element of a row of rows is settled -/
theorem Stl.last {id r g : Nat} {e : TypeId} {l : List (List T)} {m : List (List A)} (hk : (o id).k = .rowA e 1 (m ++ [[.row r g]])) (hg : g = (o r).gen) (hr : (o r).k = .ro l) : Stl o (ob1 o id (.rowA e 1 (m ++ [[.t (.sl l)]]))) := by
  refine Stl.rowA hk (by simp) (fun h x hx => ?_) (fun j x' hx => ?_)
  · rcases List.mem_append.1 hx with hx | hx
    · exact h x (List.mem_append_left _ hx)
    · obtain rfl := List.mem_singleton.1 hx; rfl
  · rw [List.flatten_append] at hx ⊢
    by_cases hj : j < m.flatten.length
    · rw [List.getElem?_append_left hj] at hx ⊢
      exact ⟨x', hx, .inl rfl⟩
    · rw [List.getElem?_append_right (Nat.le_of_not_lt hj)] at hx ⊢
      generalize j - m.flatten.length = i at hx ⊢
      cases i with
      | zero =>
        cases hx
        exact ⟨_, rfl, .inr ⟨r, g, l, rfl, hg, hr, rfl⟩⟩
      | succ i => simp at hx
end
end Go.Proofs.YtfflfmpkjcomgaaDoor
