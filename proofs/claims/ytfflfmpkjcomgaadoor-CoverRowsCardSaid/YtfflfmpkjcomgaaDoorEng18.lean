/- The engine, 18: one kind of contract gives the other one. -/
import Derived.Test.YtfflfmpkjcomgaaDoorEng17
namespace Go.Proofs.YtfflfmpkjcomgaaDoor
open Go.RowKit

section
variable {P : Program} {Hy : World → Prop} {o : Nat → O}
theorem Cm.of_ct {f : FuncId} {args r : List T} (h : Ct P Hy f args r) : Cm P Hy f (args.map A.t) o fun rs o' => rs = r.map A.t ∧ o = o' :=
  ⟨h.fn, fun X B St w0 ι w cargs hM hsz harg => by
    refine (h.go w cargs (Sd B St o ι w) (fun g hg => hg.2.1) (fun w' hw => hM.hy w' (hM.below.trans (hw.mono hM.hB))) (by simpa using hsz) (fun j v t hv ht => ?_)).mono ?_
    · exact (harg j v (.t t) hv (by rw [List.getElem?_map, ht]; rfl)).dat
    · rintro e w' ⟨v, rfl, hr, hb⟩
      refine ⟨v, ι, o, r.map .t, rfl, ⟨rfl, rfl⟩, (hM.rel.keep hb none .junk undef (fun h => absurd rfl h)).mem, ?_⟩
      have hw : ∀ (v : Value) (t : T), Rt w' (fun g => Sd B St o ι w g ∨ (w.heap.size ≤ g ∧ g < w'.heap.size)) v t → Ra w' (Sd B St o ι w') o ι v (.t t) := fun v t ht => .t (ht.wide (fun g hg => by
        rcases hg with hg | hg
        · exact ⟨hg.1, Nat.lt_of_lt_of_le hg.2.1 hb.size, hg.2.2⟩
        · exact ⟨.inr (Nat.le_trans hM.hB hg.1), hg.2, fun i e => absurd (hM.rel.mbB e).2 (Nat.not_lt.2 hg.1)⟩))
      match r, hr with
      | [], ⟨cs, c, h1, h2, h3, h4⟩ => exact ⟨cs, c, h1, h2, h3, fun j x hx => (by simp at hx)⟩
      | [x], hr => exact hw _ _ hr
      | x :: y :: r, ⟨cs, c, h1, h2, h3, h4⟩ =>
        refine ⟨cs, c, h1, by simpa using h2, fun j hj => h3 j (by simpa using hj), fun j z hz => ?_⟩
        rw [← List.map_cons, List.getElem?_map] at hz
        obtain ⟨t, ht, rfl⟩ := Option.map_eq_some_iff.1 hz
        exact hw _ _ (h4 j t ht)⟩
theorem Ct.of_cm {f : FuncId} {args r : List T} {R : List A → (Nat → O) → Prop} (h : Cm P Hy f (args.map A.t) o0 R) (hr : ∀ rs o', R rs o' → frzL o' rs fun ts _ => ts = r) : Ct P Hy f args r :=
  ⟨h.fn, fun w cargs D hD hHy hsz harg => by
    have hm : ∀ i, mb o0 (fun _ => undef) i = none := fun i => rfl
    have hM : Mem Hy (fun _ _ _ _ => True) w.heap.size D w o0 (fun _ => undef) w := ⟨Below.refl _ _, Nat.le_refl _, fun id => trivial, fun i j b e => (by rw [hm] at e; cases e), hD, hHy, trivial, ⟨0, Nat.zero_le _, XC.true_⟩⟩
    refine (h.go _ _ D w _ w cargs hM (by simpa using hsz) (fun j v x hv hx => ?_)).mono ?_
    · rw [List.getElem?_map] at hx
      obtain ⟨t, ht, rfl⟩ := Option.map_eq_some_iff.1 hx
      exact .t ((harg j v t hv ht).wide (fun g hg => ⟨.inl hg, hD g hg, fun i e => (by rw [hm] at e; cases e)⟩))
    · rintro e w' ⟨v, ι', o', rs, rfl, hR, hM', hv⟩
      have get : ∀ {g : Nat}, Sd w.heap.size D o' ι' w' g → D g ∨ (w.heap.size ≤ g ∧ g < w'.heap.size) := fun hg => hg.1.imp id (fun h => ⟨h, hg.2.1⟩)
      refine ⟨v, rfl, ?_, hM'.below⟩
      have hk := hr _ _ hR
      match rs, hk, hv with
      | [], hk, ⟨cs, c, h1, h2, h3, h4⟩ =>
        obtain rfl : [] = r := hk
        exact ⟨cs, c, h1, h2, h3, fun j x hx => (by simp at hx)⟩
      | [x], hk, hv =>
        obtain ⟨ts, ids, g1, g2, g3, rfl⟩ := frzL_ok hM'.rel [x] (fun _ => v) (fun j y hy => by
          cases j with
          | zero => cases hy; exact hv
          | succ j => simp at hy) hk
        match ts, g2 with
        | [t], _ => exact g3 0 t rfl _ (fun g hg => get hg) (fun q _ g hg => .inr (hM'.rel.mbB hg))
      | x :: y :: rs, hk, ⟨cs, c, h1, h2, h3, h4⟩ =>
        obtain ⟨ts, ids, g1, g2, g3, rfl⟩ := frzL_ok hM'.rel (x :: y :: rs) c h4 hk
        match ts, g2 with
        | t :: t' :: ts, g2 => exact ⟨cs, c, h1, by rw [h2, g2], fun j hj => h3 j (by rw [← g2]; exact hj), fun j z hz => g3 j z hz _ (fun g hg => get hg) (fun q _ g hg => .inr (hM'.rel.mbB hg))⟩⟩
/-- an own row may be handed in as data: it is frozen; and so may nil -/
theorem Cm.own {f : FuncId} {args args' : List A} {R : List A → (Nat → O) → Prop} {id g : Nat} {ty : TypeId} {z : Nat} {l : List (List T)} (ho : o id = ⟨g, .row ty z l⟩) (hl : args.length = args'.length)
    (ha : ∀ (j : Nat) x x', args[j]? = some x → args'[j]? = some x' → x = x' ∨ (x = .row id g ∧ x' = .t (.sl l)) ∨ (x = .nilS ∧ x' = .t (.sl []))) (h : Cm P Hy f args' (ob1 o id (.ro l)) R) : Cm P Hy f args o R :=
  ⟨h.fn, fun X B St w0 ι w cargs hM hsz harg => by
    obtain ⟨q1, q2⟩ := Stl.ro (o := o) (id := id) (by rw [ho]) _ _ _ _ _ _ _ hM
    refine h.go X B St w0 ι w cargs q1 (hsz.trans hl) (fun j v x' hv hx' => ?_)
    have hj : j < args.length := by rw [hl]; exact (List.getElem?_eq_some_iff.1 hx').1
    have hr := q2 _ _ (harg j v _ hv (List.getElem?_eq_getElem hj))
    rcases ha j _ x' (List.getElem?_eq_getElem hj) hx' with e | ⟨e, rfl⟩ | ⟨e, rfl⟩
    · rw [← e]; exact hr
    · rw [e] at hr
      have hg : g = (ob1 o id (.ro l) id).gen := by rw [ob1_self, ho]
      rw [hr.row_get hg]
      have := q1.ob id
      rw [ob1_self] at this
      exact .t this
    · rw [e] at hr
      obtain rfl := Ra.nil_get hr
      exact .t (.sl0 none 0 fun _ => rfl)⟩
theorem Cm.nils {f : FuncId} {args args' : List A} {R : List A → (Nat → O) → Prop} (hl : args.length = args'.length) (ha : ∀ (j : Nat) x x', args[j]? = some x → args'[j]? = some x' → x = x' ∨ (x = .nilS ∧ x' = .t (.sl []))) (h : Cm P Hy f args' o R) : Cm P Hy f args o R :=
  ⟨h.fn, fun X B St w0 ι w cargs hM hsz harg => by
    refine h.go X B St w0 ι w cargs hM (hsz.trans hl) (fun j v x' hv hx' => ?_)
    have hj : j < args.length := by rw [hl]; exact (List.getElem?_eq_some_iff.1 hx').1
    have hr := harg j v _ hv (List.getElem?_eq_getElem hj)
    rcases ha j _ x' (List.getElem?_eq_getElem hj) hx' with e | ⟨e, rfl⟩
    · rw [← e]; exact hr
    · rw [e] at hr
      obtain rfl := Ra.nil_get hr
      exact .t (.sl0 none 0 fun _ => rfl)⟩
end
end Go.Proofs.YtfflfmpkjcomgaaDoor
