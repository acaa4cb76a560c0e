/- The engine, 20: no slice, taken for an own row. -/
import Derived.Test.YtfflfmpkjcomgaaDoorEng19
namespace Go.Proofs.YtfflfmpkjcomgaaDoor
open Go.RowKit

section
variable {P : Program} {Hy : World → Prop} {X : World → (Nat → Prop) → (Nat → O) → (Nat → Value) → Prop} {B : Nat} {St : Nat → Prop} {w0 w : World} {o : Nat → O} {ι : Nat → Value}
theorem Mem.nilRow (h : Mem Hy X B St w0 o ι w) (id g : Nat) (e : TypeId) (z : Nat) (hg : (o id).gen < g) :
    Mem Hy X B St w0 (fun j => if j = id then ⟨g, .row e z []⟩ else o j) (fun j => if j = id then .slice none 0 0 else ι j) w :=
  ((h.rel.next (w' := w) (ι' := fun j => if j = id then .slice none 0 0 else ι j) id ⟨g, .row e z []⟩ (.slice none 0 0) none .junk undef (Below.refl _ _) (fun i hi => if_neg hi) (if_pos rfl) (Nat.le_of_lt hg) (fun q => absurd q (Nat.ne_of_lt hg)) (fun _ _ _ => rfl)
    (fun b hb => by
      have : mb (S.ob ⟨0, fun _ => .junk, o⟩ id ⟨g, .row e z []⟩).o (fun j => if j = id then .slice none 0 0 else ι j) id = none := by
        unfold mb S.ob
        simp only [if_pos]
        rfl
      rw [this] at hb
      cases hb)
    (fun _ _ => ⟨fun _ hx => (by cases hx), [], World.ownsRow_nil _ _ _ _, fun j y hy => (by simp at hy)⟩)
    (fun _ _ hq => absurd rfl hq))).mem
theorem RresM.impI {D D' : Nat → Prop} {o o' : Nat → O} {ι ι' : Nat → Value} {v : Value} (mA : ∀ (v : Value) (z : A), Ra w D o ι v z → Ra w D' o' ι' v z) : ∀ {l : List A}, RresM w D o ι v l → RresM w D' o' ι' v l
  | [], ⟨cs, c, h1, h2, h3, h4⟩ => ⟨cs, c, h1, h2, h3, fun j x hx => mA _ _ (h4 j x hx)⟩
  | [_], h => mA _ _ h
  | _ :: _ :: _, ⟨cs, c, h1, h2, h3, h4⟩ => ⟨cs, c, h1, h2, h3, fun j x hx => mA _ _ (h4 j x hx)⟩
/-- what is so of whatever X is, is so of values -/
theorem stx_ra {o' : Nat → O} {ι' : Nat → Value} (h : ∀ X, Mem Hy X B St w0 o ι w → Mem Hy X B St w0 o' ι' w) (hM : Mem Hy X B St w0 o ι w) (v : Value) (x : A) (hx : Ra w (Sd B St o ι w) o ι v x) : Ra w (Sd B St o' ι' w) o' ι' v x := by
  obtain ⟨N, n1, _⟩ := hM.xc
  exact (h (fun w D o ι => Ra w D o ι v x) (hM.weak hx n1 fun _ _ _ _ _ _ _ _ _ mA _ _ h => mA _ _ h)).x
def obx (o : Nat → O) (id : Nat) (x : O) : Nat → O := fun j => if j = id then x else o j
theorem Mem.drop (h : Mem Hy X B St w0 o ι w) (id g : Nat) (hg : (o id).gen ≤ g) : Mem Hy X B St w0 (obx o id ⟨g, .none⟩) ι w :=
  (h.rel.next (w' := w) (ι' := ι) id ⟨g, .none⟩ (ι id) none .junk undef (Below.refl _ _) (fun _ _ => rfl) rfl hg (fun _ => rfl) (fun _ _ _ => rfl)
    (fun b hb => by
      have : mb (S.ob ⟨0, fun _ => .junk, o⟩ id ⟨g, .none⟩).o ι id = none := by
        unfold mb S.ob
        simp only [if_pos]
      rw [this] at hb
      cases hb)
    (fun _ _ => trivial) (fun _ _ hq => absurd rfl hq)).mem
/-- an object is forgotten -/
theorem Stl.drop {id g : Nat} (hg : (o id).gen ≤ g) : Stl o (obx o id ⟨g, .none⟩) := fun _ _ _ _ _ _ _ h =>
  ⟨h.drop id g hg, stx_ra (fun _ h => h.drop id g hg) h⟩
/-- a cell that holds none comes to hold an own row without elements -/
theorem Mem.nilCell (h : Mem Hy X B St w0 o ι w) {c j id g z : Nat} {e ty : TypeId} {l : List A} (hc : (o c).k = .cells ty l) (hj : l[j]? = some .nilS) (hne : id ≠ c) (hg : (o id).gen < g) :
    ∃ ι', Mem Hy X B St w0 (obx (obx o id ⟨g, .row e z []⟩) c ⟨(o c).gen, .cells ty (l.set j (.row id g))⟩) ι' w ∧ ∀ (v : Value) (x : A), Ra w (Sd B St o ι w) o ι v x → Ra w (Sd B St (obx (obx o id ⟨g, .row e z []⟩) c ⟨(o c).gen, .cells ty (l.set j (.row id g))⟩) ι' w) (obx (obx o id ⟨g, .row e z []⟩) c ⟨(o c).gen, .cells ty (l.set j (.row id g))⟩) ι' v x := by
  have go : ∀ X, Mem Hy X B St w0 o ι w → Mem Hy X B St w0 (obx (obx o id ⟨g, .row e z []⟩) c ⟨(o c).gen, .cells ty (l.set j (.row id g))⟩) (fun j => if j = id then .slice none 0 0 else ι j) w := fun X h => by
    have h1 := h.nilRow id g e z hg
    have hoc : (obx o id ⟨g, .row e z []⟩ c) = o c := if_neg (Ne.symm hne)
    have hob := h1.ob c
    change Ob B w _ (obx o id ⟨g, .row e z []⟩) _ _ (obx o id ⟨g, .row e z []⟩ c).k at hob
    rw [hoc, hc] at hob
    obtain ⟨blk, cs, h2, h3, h4, h5, h6⟩ := hob
    refine (h1.rel.next (w' := w) (ι' := fun j => if j = id then .slice none 0 0 else ι j) c ⟨(o c).gen, .cells ty (l.set j (.row id g))⟩ _ none .junk undef (Below.refl _ _) (fun _ _ => rfl) rfl (by
      show (obx o id ⟨g, .row e z []⟩ c).gen ≤ _
      rw [hoc]
      exact Nat.le_refl _) (fun _ => rfl) (fun _ _ _ => rfl) (fun b hb => .inl ?_) (fun _ mA => ?_) (fun _ _ hq => absurd rfl hq)).mem
    · unfold mb S.ob at hb
      simp only [if_pos] at hb
      unfold mb
      change (match (obx o id ⟨g, .row e z []⟩ c).k with | .cells _ _ => _ | .row _ _ _ => _ | .rowA _ _ _ => _ | .map _ _ => _ | _ => none) = some b
      rw [hoc, hc]
      exact hb
    · refine ⟨blk, cs, h2, h3, h4, by rw [List.length_set]; exact h5, fun i y hy => ?_⟩
      rw [List.getElem?_set] at hy
      by_cases hji : j = i
      · subst hji
        obtain ⟨x, x1, _, x3⟩ := h6 j _ hj
        have hjl := (List.getElem?_eq_some_iff.1 hj).1
        rw [if_pos rfl, if_pos hjl] at hy
        cases hy
        refine ⟨x, x1, rfl, ?_⟩
        obtain rfl := Ra.nil_get x3
        have hid : ((S.ob ⟨0, fun _ => .junk, fun j => if j = id then ⟨g, .row e z []⟩ else o j⟩ c ⟨(o c).gen, .cells ty (l.set j (.row id g))⟩).o id) = ⟨g, .row e z []⟩ := by
          unfold S.ob
          simp only [if_neg hne, if_pos]
        exact .row (by rw [hid]; exact Nat.le_refl _) (fun _ => (if_pos rfl).symm) rfl
      · rw [if_neg hji] at hy
        obtain ⟨x, x1, x2, x3⟩ := h6 i _ hy
        exact ⟨x, x1, x2, mA _ _ x3⟩
  exact ⟨_, go X h, stx_ra go h⟩
theorem Cm.nilCell {f : FuncId} {args : List A} {R R' : List A → (Nat → O) → Prop} (h : Cm P Hy f args o R)
    (hr : ∀ rs o', R rs o' → ∃ (c j id g z : Nat) (e ty : TypeId) (l : List A), (o' c).k = .cells ty l ∧ l[j]? = some .nilS ∧ id ≠ c ∧ (o' id).gen < g ∧ R' rs (obx (obx o' id ⟨g, .row e z []⟩) c ⟨(o' c).gen, .cells ty (l.set j (.row id g))⟩)) : Cm P Hy f args o R' :=
  ⟨h.fn, fun X B St w0 ι w cargs hM hs ha => (h.go X B St w0 ι w cargs hM hs ha).mono (fun _ _ ⟨v, ι', o', rs, h1, h2, h3, h4⟩ => by
    obtain ⟨c, j, id, g, z, e, ty, l, k1, k2, k3, k4, k5⟩ := hr _ _ h2
    obtain ⟨ι2, m1, m2⟩ := h3.nilCell (e := e) (z := z) k1 k2 k3 k4
    exact ⟨v, ι2, _, rs, h1, k5, m1, RresM.impI m2 h4⟩)⟩
/-- where none is told, an own row without elements may be told in its place -/
theorem Cm.nilRow {f : FuncId} {args : List A} {R R' : List A → (Nat → O) → Prop} (h : Cm P Hy f args o R)
    (hr : ∀ rs o', R rs o' → R' rs o' ∨ (rs = [.nilS] ∧ ∃ id g e z, (o' id).gen < g ∧ R' [.row id g] fun j => if j = id then ⟨g, .row e z []⟩ else o' j)) : Cm P Hy f args o R' :=
  ⟨h.fn, fun X B St w0 ι w cargs hM hs ha => (h.go X B St w0 ι w cargs hM hs ha).mono (fun _ _ ⟨v, ι', o', rs, h1, h2, h3, h4⟩ => by
    rcases hr _ _ h2 with hr | ⟨rfl, id, g, e, z, hg, hr⟩
    · exact ⟨v, ι', o', rs, h1, hr, h3, h4⟩
    · refine ⟨v, _, _, _, h1, hr, h3.nilRow id g e z hg, ?_⟩
      obtain rfl := Ra.nil_get h4
      exact .row (by simp) (fun _ => by simp) rfl)⟩
end
section
variable {P : Program} {Hy : World → Prop}
/-- objects as these say, but for own ones, which are not looked at any more -/
structure Nearly (o2 : Nat → O) (own : List Nat) (c : Nat) (up : List (Nat × O)) (o' : Nat → O) : Prop where
  eq : ∀ j, j ∉ own → o' j = lookO up j (o2 j)
  gen : ∀ j ∈ own, (o' j).gen ≤ (o2 j).gen + c
theorem Stl.dropL {o2 : Nat → O} {c : Nat} {o : Nat → O} : ∀ (own : List Nat), (∀ j ∈ own, (o j).gen ≤ (o2 j).gen + c) → Stl o (fun j => if j ∈ own then ⟨(o2 j).gen + c, .none⟩ else o j)
  | [], _ => by
    simp only [List.not_mem_nil, if_false]
    exact Stl.refl
  | i :: l, h => by
    refine (Stl.dropL l fun j hj => h j (List.mem_cons_of_mem _ hj)).trans ?_
    have hd := Stl.drop (o := fun j => if j ∈ l then ⟨(o2 j).gen + c, .none⟩ else o j) (id := i) (g := (o2 i).gen + c) (by
      show (if i ∈ l then _ else o i : O).gen ≤ _
      split
      · exact Nat.le_refl _
      · exact h i List.mem_cons_self)
    refine (congrArg (Stl _) (funext fun j => ?_)).mp hd
    show (if j = i then _ else if j ∈ l then _ else o j) = if j ∈ i :: l then _ else o j
    by_cases hj : j = i
    · subst hj
      rw [if_pos rfl, if_pos List.mem_cons_self]
    · rw [if_neg hj]
      by_cases hl : j ∈ l
      · rw [if_pos hl, if_pos (List.mem_cons_of_mem _ hl)]
      · rw [if_neg hl, if_neg (fun h => (List.mem_cons.1 h).elim hj hl)]
theorem lookO_own {o2 : Nat → O} {c : Nat} {up : List (Nat × O)} {d : O} {j : Nat} : ∀ (own : List Nat), lookO (own.map (fun i => (i, ⟨(o2 i).gen + c, .none⟩)) ++ up) j d = if j ∈ own then ⟨(o2 j).gen + c, .none⟩ else lookO up j d
  | [] => by simp
  | i :: l => by
    show (if j = i then _ else _) = _
    by_cases hj : j = i
    · subst hj
      rw [if_pos rfl, if_pos List.mem_cons_self]
    · refine (if_neg hj).trans ((lookO_own (up := up) (d := d) l).trans ?_)
      by_cases hl : j ∈ l
      · rw [if_pos hl, if_pos (List.mem_cons_of_mem _ hl)]
      · rw [if_neg hl, if_neg (fun h => (List.mem_cons.1 h).elim hj hl)]
theorem Cm.near {f : FuncId} {args : List A} {o2 : Nat → O} {own : List Nat} {c : Nat} {up : List (Nat × O)} {y : A} (h : Cm P Hy f args o2 fun rs o' => resM rs = y ∧ Nearly o2 own c up o') :
    Cm P Hy f args o2 fun rs o' => resM rs = y ∧ o' = fun j => lookO (own.map (fun i => (i, ⟨(o2 i).gen + c, .none⟩)) ++ up) j (o2 j) :=
  h.settle fun rs o' ⟨hr, hn⟩ => ⟨_, Stl.dropL own hn.gen, hr, funext fun j => by
    rw [lookO_own]
    split
    · rfl
    · exact hn.eq j (by assumption)⟩
theorem Nearly.pull {o2 : Nat → O} {own : List Nat} {c : Nat} {up : List (Nat × O)} {n : Nat} {F : Nat → A} {ts : List (Nat × A)} {os : List (Nat × O)} (h1 : ∀ p ∈ up, p.1 ∉ own → lookO os p.1 (o2 p.1) = lookO up p.1 (o2 p.1)) (h2 : ∀ p ∈ os, p.1 ∈ own ∨ p.1 ∈ up.map (·.1)) (h3 : ∀ p ∈ os, p.1 ∈ own → p.2.gen ≤ (o2 p.1).gen + c) :
    Nearly o2 own c up (nf n F o2 ts os).o := by
  have key : ∀ (os : List (Nat × O)) (j : Nat) (d : O), (j ∉ os.map (·.1) ∧ lookO os j d = d) ∨ ∃ p ∈ os, p.1 = j ∧ lookO os j d = p.2 := fun os j d => by
    induction os with
    | nil => exact .inl ⟨by simp, rfl⟩
    | cons p os ih =>
      by_cases hj : j = p.1
      · exact .inr ⟨p, List.mem_cons_self, hj.symm, if_pos hj⟩
      · rcases ih with ⟨i1, i2⟩ | ⟨q, q1, q2, q3⟩
        · exact .inl ⟨by simp only [List.map_cons, List.mem_cons, not_or]; exact ⟨hj, i1⟩, (if_neg hj).trans i2⟩
        · exact .inr ⟨q, List.mem_cons_of_mem _ q1, q2, (if_neg hj).trans q3⟩
  refine ⟨fun j hj => ?_, fun j hj => ?_⟩
  · show lookO os j (o2 j) = _
    rcases key up j (o2 j) with ⟨u1, u2⟩ | ⟨p, p1, rfl, p3⟩
    · rw [u2]
      rcases key os j (o2 j) with ⟨_, v2⟩ | ⟨q, q1, rfl, _⟩
      · exact v2
      · rcases h2 q q1 with h | h
        · exact absurd h hj
        · exact absurd h u1
    · exact h1 p p1 hj
  · show (lookO os j (o2 j)).gen ≤ _
    rcases key os j (o2 j) with ⟨_, v2⟩ | ⟨q, q1, rfl, q3⟩
    · rw [v2]; exact Nat.le_add_right _ _
    · rw [q3]; exact h3 q q1 hj
end
theorem r_callD {E : Env} {P : Program} {tt : Tys} {Hy : World → Prop} {cls : Nat → Nat} {ops os : List Oper} {o : Oper} {s : S} {K : S → Prop} {R W : List Nat} (h : ∀ K' : S → Prop, (∀ s', runM P Hy tt cls E ops os s' K → K' s') → opD P Hy ops o s R W K') : runM P Hy tt cls E ops (o :: os) s K :=
  r_call fun K' hK => opD_M (h K' hK)
end Go.Proofs.YtfflfmpkjcomgaaDoor
