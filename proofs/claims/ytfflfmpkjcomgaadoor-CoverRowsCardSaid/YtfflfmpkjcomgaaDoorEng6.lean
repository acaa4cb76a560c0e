/- The engine, 6: append, made slices, slice literals. -/
import Derived.Test.YtfflfmpkjcomgaaDoorEng5
import Derived.Great.BuildSlice
namespace Go.Proofs.YtfflfmpkjcomgaaDoor
open Go.RowKit
section
variable {P : Program} {tt : Tys} {Hy : World → Prop} {X : World → (Nat → Prop) → (Nat → O) → (Nat → Value) → Prop} {B : Nat} {St : Nat → Prop} {Dp : List Deferred → Prop} {w0 w : World} {s : S} {ι : Nat → Value} {a : Act}

theorem owns_mono {B B' : Nat} {e : TypeId} {size n : Nat} {v : Value} {xs : List Value} (h : w.ownsRow B' e size v n xs) (hB : B ≤ B') : w.ownsRow B e size v n xs := by
  refine ⟨h.1, ?_⟩
  rcases h.2 with h2 | ⟨g, cap, cur, h2, h3, r⟩
  · exact .inl h2
  · exact .inr ⟨g, cap, cur, h2, Nat.le_trans hB h3, r⟩

theorem append_own (base : Nat) (t ty e : TypeId) (i : TypeInfo) (z : Value) (ht : P.underlying t = some (.slice e)) (hi : P.info? e = some i) (hz : i.zero = some z) (hzs : z.cells.size = i.size) (hsz : 0 < i.size)
    (v : Value) (n : Nat) (xs : List Value) (hown : w.ownsRow base e i.size v n xs)
    (a : Addr) (m c : Nat) (news : List Value) (hl : news.length = m * i.size) (hnews : ∀ (j : Nat) u, news[j]? = some u → w.cell? (a.add j) = some u) (h1 : ∀ u ∈ news, u.oneCell' = true)
    (h63 : n + m ≤ maxLen) (hbytes : (n + m) * i.bytes ≤ 140737488355328) (hbase : base ≤ w.heap.size) :
    ∃ v' w', (Builtin.append_ #[t, t] ty #[v, .slice (some a) m c]).run P w = .ok v' w' ∧ w'.ownsRow base e i.size v' (n + m) (xs ++ news) ∧ w.grownBy w' v.ownBlock ∧ ∀ b, v'.ownBlock = some b → v.ownBlock = some b ∨ w.heap.size ≤ b := by
  have hsmall : n + m ≤ 9223372036854775807 := by simp only [maxLen] at h63; omega
  rcases hown.2 with ⟨rfl, rfl⟩ | ⟨g, cap, cur, rfl, hbg, hg, hnc, hcm, hcs, htake⟩
  · have hx : xs = [] := List.eq_nil_of_length_eq_zero (by simpa using hown.1)
    subst hx
    obtain ⟨v', w', r1, r2, r3, _⟩ := run_append_own (P := P) w w.heap.size t ty e i z i.size i.bytes ht hi hz rfl rfl hzs hsz (.slice none 0 0) 0 [] (World.ownsRow_nil _ _ _ _) a m c news hl hnews h1 h63 hbytes (Nat.le_refl _)
    exact ⟨v', w', r1, owns_mono r2 hbase, r3, fun b hb => .inr (r2.lt b hb).1⟩
  · obtain ⟨v', w', r1, r2, r3, _⟩ := run_append_own (P := P) w base t ty e i z i.size i.bytes ht hi hz rfl rfl hzs hsz _ n xs hown a m c news hl hnews h1 h63 hbytes hbase
    refine ⟨v', w', r1, r2, r3, fun b hb => ?_⟩
    by_cases hroom : n + m ≤ cap
    · have hfit : n * i.size + news.length ≤ cur.size := by rw [hl, hcs, ← Nat.add_mul]; exact Nat.mul_le_mul_right _ hroom
      have hr := run_append_room (P := P) w t ty e i ht hi g n cap cur hg a m c news hl hnews h1 hroom hfit
      rw [hr] at r1
      injection r1 with e1 e2
      subst e1
      exact .inl hb
    · have holds : ∀ (j : Nat) u, xs[j]? = some u → w.cell? ((⟨g, 0, none⟩ : Addr).add j) = some u := hown.cells (g := g) rfl
      have hr := run_append_grow (P := P) w t ty e i z ht hi hz ⟨g, 0, none⟩ n cap xs hown.1 holds a m c news hl hnews (by omega) (by omega) (growslice_fits (by omega) hbytes)
      rw [hr] at r1
      injection r1 with e1 e2
      subst e1
      cases hb
      exact .inr (Nat.le_refl _)

/-- what is appended: a list of elements, and where they lie -/
def Src (w : World) (D : Nat → Prop) (v : Value) (z : Nat) (l : List (List T)) : Prop := (v = .slice none 0 0 ∧ l = []) ∨ ∃ (ad : Addr) (m c : Nat) (news : List Value), v = .slice (some ad) m c ∧ m = l.length ∧ news.length = m * z ∧
  (∀ (j : Nat) u, news[j]? = some u → w.cell? (ad.add j) = some u) ∧ ∀ (j : Nat) y, l.flatten[j]? = some y → ∃ c, news[j]? = some c ∧ y.leaf = true ∧ Rt w D c y

theorem src_rt {D : Nat → Prop} {v : Value} {l : List (List T)} {z : Nat} (h : Rt w D v (.sl l)) (hz : ∀ e ∈ l, e.length = z) : Src w D v z l := by
  cases h with
  | sl0 p cap hp =>
    cases p with
    | none => left; exact ⟨by rw [hp rfl], rfl⟩
    | some ad => right; exact ⟨ad, 0, cap, [], rfl, rfl, by simp, fun j u hu => (by simp at hu), fun j y hy => (by simp at hy)⟩
  | sl g o n cap z' l c hn hq hD hz' hc hl hr =>
    right
    have hzz : l.flatten.length = l.length * z := flat_size hz
    have hzz' : l.flatten.length = l.length * z' := flat_size hz'
    refine ⟨⟨g, o, none⟩, n, cap, (List.range (l.length * z)).map c, rfl, hn, by simp [hn], fun j u hu => ?_, fun j y hy => ?_⟩
    · rw [List.getElem?_map] at hu
      obtain ⟨k, hk, rfl⟩ := Option.map_eq_some_iff.1 hu
      have hk2 := List.getElem?_eq_some_iff.1 hk
      simp at hk2
      obtain ⟨hl2, rfl⟩ := hk2
      rw [Addr.add_mid]
      exact hc j (by omega)
    · have hjl := (List.getElem?_eq_some_iff.1 hy).1
      refine ⟨c j, ?_, hl j y hy, hr j y hy⟩
      rw [List.getElem?_map, List.getElem?_range (by omega)]
      rfl

/-- an append to an own row, or to none -/
theorem append_row (h : Rel Hy X B St w0 Dp s ι a w) (hT : Tys.ok P tt) {t : TypeId} {dt : TD} {e : TypeId} (hdt : tt t = some dt) (hk : dt.k = .slice e) {de : TD} (hde : tt e = some de) (hpos : 0 < de.size) (hzl : de.zero.length = de.size) (ty : TypeId)
    (id : Nat) (v u : Value) (l m : List (List T)) (g : Nat)
    (hv : (v = .slice none 0 0 ∧ l = []) ∨ (v = ι id ∧ ∃ ty', ty' = e ∧ (s.o id).k = .row ty' de.size l))
    (hl : ∀ x ∈ l, x.length = de.size) (hm : ∀ x ∈ m, x.length = de.size) (hu : Src w (Sd B St s.o ι w) u de.size m) (hg : (s.o id).gen < g) (hb1 : (l.length + m.length) * de.bytes ≤ 140737488355328) (hb2 : l.length + m.length ≤ 9223372036854775807) (dst : Option Nat) :
    ∃ ι' v' w', (Builtin.append_ #[t, t] ty #[v, u]).run P w = .ok v' w' ∧ Rel Hy X B St w0 Dp ((s.ob id ⟨g, .row e de.size (l ++ m)⟩).put dst (.row id g)) ι' (a.put dst v') w' := by
  obtain ⟨ux, hux, hok⟩ := (hT _ _ hdt).desc
  obtain ⟨hok, _⟩ := hok
  rw [hk] at hok
  simp only [TK.ok] at hok
  subst hok
  obtain ⟨i, z, i1, i2, i3, i4, i5⟩ := (hT _ _ hde).info
  have hzs : z.cells.size = i.size := by rw [i2, ← hzl, ← i5]; simp
  -- the row that is there
  obtain ⟨xs, hown, hmbv, hxs⟩ : ∃ xs, w.ownsRow B e de.size v l.length xs ∧ (∀ b, v.ownBlock = some b → mb s.o ι id = some b) ∧ ∀ (j : Nat) y, l.flatten[j]? = some y → ∃ c, xs[j]? = some c ∧ y.leaf = true ∧ Rt w (Sd B St s.o ι w) c y := by
    rcases hv with ⟨rfl, rfl⟩ | ⟨rfl, ty', rfl, hkk⟩
    · exact ⟨[], World.ownsRow_nil _ _ _ _, fun b hb => (by cases hb), fun j y hy => (by simp at hy)⟩
    · have ho := h.ob id
      rw [hkk] at ho
      obtain ⟨_, xs, k2, k3⟩ := ho
      refine ⟨xs, k2, fun b hb => ?_, k3⟩
      unfold mb
      rw [hkk]
      revert hb
      generalize ι id = q
      intro hb
      cases q <;> first | (cases hb; done) | skip
      rename_i p _ _
      cases p <;> first | (cases hb; done) | exact hb
  -- what the append comes to
  obtain ⟨v', w', news, r1, r2, r3, r4, r5⟩ : ∃ v' w' news, (Builtin.append_ #[t, t] ty #[v, u]).run P w = .ok v' w' ∧ w'.ownsRow B e de.size v' (l.length + m.length) (xs ++ news) ∧ w.grownBy w' v.ownBlock ∧ (∀ b, v'.ownBlock = some b → v.ownBlock = some b ∨ w.heap.size ≤ b) ∧
      ∀ (j : Nat) y, m.flatten[j]? = some y → ∃ c, news[j]? = some c ∧ y.leaf = true ∧ Rt w (Sd B St s.o ι w) c y := by
    rcases hu with ⟨rfl, rfl⟩ | ⟨ad, k, c, news, rfl, hk2, hnl, hnc, hnr⟩
    · refine ⟨v, w, [], run_append_owned_none w B t ty e i de.size hux i1 v l.length xs hown, by simpa using hown, ⟨rfl, rfl, rfl, Nat.le_refl _, fun _ _ _ => rfl⟩, fun b hb => .inl hb, fun j y hy => (by simp at hy)⟩
    · subst hk2
      have one : ∀ x ∈ news, x.oneCell' = true := fun x hx => by
        obtain ⟨j, hj⟩ := List.getElem?_of_mem hx
        have hjl := (List.getElem?_eq_some_iff.1 hj).1
        have : j < m.flatten.length := by rw [flat_size hm]; omega
        obtain ⟨c', hc', hl', hr'⟩ := hnr j _ (List.getElem?_eq_getElem this)
        rw [hj] at hc'
        cases hc'
        exact hr'.one hl'
      rw [← i2] at hown hnl
      obtain ⟨v', w', r1, r2, r3, r4⟩ := append_own (P := P) B t ty e i z hux i1 i4 hzs (by omega) v l.length xs hown ad m.length c news hnl hnc one (by simp only [maxLen]; omega) (by rw [i3]; exact hb1) h.hB
      rw [i2] at r2
      exact ⟨v', w', news, r1, r2, r3, r4, hnr⟩
  have hxl : xs.length = l.length * de.size := hown.1
  have v1 : v'.oneCell' = true := by rcases r2.2 with ⟨h4, _⟩ | ⟨_, _, _, h4, _⟩ <;> (rw [h4]; rfl)
  have oid : (s.ob id ⟨g, .row e de.size (l ++ m)⟩).o id = ⟨g, .row e de.size (l ++ m)⟩ := if_pos rfl
  refine ⟨fun j => if j = id then v' else ι j, v', w', r1, Rel.next h id _ v' dst _ _ ?_ (fun j hj => if_neg hj) (if_pos rfl) (Nat.le_of_lt hg) (fun e2 => absurd e2 (Nat.ne_of_lt hg)) (fun b hb hne => r3.block b hb (fun e2 => hne (hmbv b e2.symm))) (fun b e2 => ?_) (fun mT mA => ?_) (fun mT mA _ => ?_)⟩
  · exact (Below.refl B w).grown r3 h.hB (fun b hb => (hown.lt b hb).1)
  · unfold mb at e2
    rw [oid] at e2
    simp only [if_true] at e2
    have : v'.ownBlock = some b := by
      cases v' <;> first | (cases v1; done) | skip
      all_goals first
        | (rcases r2.2 with ⟨h4, _⟩ | ⟨_, _, _, h4, _⟩ <;> cases h4; done)
        | (rename_i p _ _; cases p <;> first | (cases e2; done) | exact e2)
    rcases r4 b this with h5 | h5
    · exact .inl (hmbv b h5)
    · exact .inr h5
  · refine ⟨fun x hx => ?_, xs ++ news, by rw [List.length_append]; exact r2, fun j y hy => ?_⟩
    · rcases List.mem_append.1 hx with hx | hx
      · exact hl x hx
      · exact hm x hx
    · rw [List.flatten_append] at hy
      have hfl : l.flatten.length = xs.length := by rw [hxl, flat_size hl]
      by_cases hj : j < l.flatten.length
      · rw [List.getElem?_append_left hj] at hy
        obtain ⟨c, p1, p2, p3⟩ := hxs j y hy
        exact ⟨c, by rw [List.getElem?_append_left (by omega)]; exact p1, p2, mT _ _ p3⟩
      · rw [List.getElem?_append_right (by omega)] at hy
        obtain ⟨c, p1, p2, p3⟩ := r5 _ y hy
        exact ⟨c, by rw [List.getElem?_append_right (by omega), ← hfl]; exact p1, p2, mT _ _ p3⟩
  · refine .row ?_ (fun _ => (if_pos rfl : (if id = id then v' else ι id) = v').symm) v1
    rw [oid]
    exact Nat.le_refl _
/-- what is appended, as handles -/
def SrcA (w : World) (D : Nat → Prop) (o : Nat → O) (ι : Nat → Value) (v : Value) (z : Nat) (l : List (List A)) : Prop := (v = .slice none 0 0 ∧ l = []) ∨ ∃ (ad : Addr) (m c : Nat) (news : List Value), v = .slice (some ad) m c ∧ m = l.length ∧ news.length = m * z ∧
  (∀ (j : Nat) u, news[j]? = some u → w.cell? (ad.add j) = some u) ∧ ∀ (j : Nat) y, l.flatten[j]? = some y → ∃ c, news[j]? = some c ∧ y.leaf = true ∧ Ra w D o ι c y
theorem Src.up {D : Nat → Prop} {v : Value} {l : List (List T)} {z : Nat} (o : Nat → O) (ι : Nat → Value) (h : Src w D v z l) : SrcA w D o ι v z (l.map fun e => e.map .t) := by
  rcases h with ⟨h1, rfl⟩ | ⟨ad, m, c, news, h1, h2, h3, h4, h5⟩
  · exact .inl ⟨h1, rfl⟩
  · refine .inr ⟨ad, m, c, news, h1, by rw [List.length_map]; exact h2, h3, h4, fun j y hy => ?_⟩
    rw [← List.map_flatten, List.getElem?_map] at hy
    obtain ⟨t, ht, rfl⟩ := Option.map_eq_some_iff.1 hy
    obtain ⟨c, p1, p2, p3⟩ := h5 j t ht
    exact ⟨c, p1, p2, .t p3⟩

/-- an append that makes a row of handles -/
theorem append_rowA (h : Rel Hy X B St w0 Dp s ι a w) (hT : Tys.ok P tt) {t : TypeId} {dt : TD} {e : TypeId} (hdt : tt t = some dt) (hk : dt.k = .slice e) {de : TD} (hde : tt e = some de) (hpos : 0 < de.size) (hzl : de.zero.length = de.size) (ty : TypeId)
    (id : Nat) (v u : Value) (l m : List (List A)) (g : Nat)
    (hv : (v = .slice none 0 0 ∧ l = []) ∨ (v = ι id ∧ (s.o id).k = .rowA e de.size l) ∨ (v = ι id ∧ ∃ l0, l = (l0.map fun e => e.map .t) ∧ (s.o id).k = .row e de.size l0))
    (hl : ∀ x ∈ l, x.length = de.size) (hm : ∀ x ∈ m, x.length = de.size) (hu : SrcA w (Sd B St s.o ι w) s.o ι u de.size m) (hg : (s.o id).gen < g) (hb1 : (l.length + m.length) * de.bytes ≤ 140737488355328) (hb2 : l.length + m.length ≤ 9223372036854775807) (dst : Option Nat) :
    ∃ ι' v' w', (Builtin.append_ #[t, t] ty #[v, u]).run P w = .ok v' w' ∧ Rel Hy X B St w0 Dp ((s.ob id ⟨g, .rowA e de.size (l ++ m)⟩).put dst (.row id g)) ι' (a.put dst v') w' := by
  obtain ⟨ux, hux, hok⟩ := (hT _ _ hdt).desc
  obtain ⟨hok, _⟩ := hok
  rw [hk] at hok
  simp only [TK.ok] at hok
  subst hok
  obtain ⟨i, z, i1, i2, i3, i4, i5⟩ := (hT _ _ hde).info
  have hzs : z.cells.size = i.size := by rw [i2, ← hzl, ← i5]; simp
  -- the row that is there
  obtain ⟨xs, hown, hmbv, hxs⟩ : ∃ xs, w.ownsRow B e de.size v l.length xs ∧ (∀ b, v.ownBlock = some b → mb s.o ι id = some b) ∧ ∀ (j : Nat) y, l.flatten[j]? = some y → ∃ c, xs[j]? = some c ∧ y.leaf = true ∧ Ra w (Sd B St s.o ι w) s.o ι c y := by
    have blkq : ∀ (q : Value) b, q.ownBlock = some b → Value.blk q = some b := fun q b hb => by
      cases q <;> first | (cases hb; done) | skip
      rename_i p _ _
      cases p <;> first | (cases hb; done) | exact hb
    rcases hv with ⟨rfl, rfl⟩ | ⟨rfl, hkk⟩ | ⟨rfl, l0, rfl, hkk⟩
    · exact ⟨[], World.ownsRow_nil _ _ _ _, fun b hb => (by cases hb), fun j y hy => (by simp at hy)⟩
    · have ho := h.ob id
      rw [hkk] at ho
      obtain ⟨_, xs, k2, k3⟩ := ho
      refine ⟨xs, k2, fun b hb => ?_, k3⟩
      unfold mb
      rw [hkk]
      exact blkq _ b hb
    · have ho := h.ob id
      rw [hkk] at ho
      obtain ⟨_, xs, k2, k3⟩ := ho
      refine ⟨xs, by rw [List.length_map]; exact k2, fun b hb => ?_, fun j y hy => ?_⟩
      · unfold mb
        rw [hkk]
        exact blkq _ b hb
      · rw [← List.map_flatten, List.getElem?_map] at hy
        obtain ⟨t, ht, rfl⟩ := Option.map_eq_some_iff.1 hy
        obtain ⟨c, p1, p2, p3⟩ := k3 j t ht
        exact ⟨c, p1, p2, .t p3⟩
  -- what the append comes to
  obtain ⟨v', w', news, r1, r2, r3, r4, r5⟩ : ∃ v' w' news, (Builtin.append_ #[t, t] ty #[v, u]).run P w = .ok v' w' ∧ w'.ownsRow B e de.size v' (l.length + m.length) (xs ++ news) ∧ w.grownBy w' v.ownBlock ∧ (∀ b, v'.ownBlock = some b → v.ownBlock = some b ∨ w.heap.size ≤ b) ∧
      ∀ (j : Nat) y, m.flatten[j]? = some y → ∃ c, news[j]? = some c ∧ y.leaf = true ∧ Ra w (Sd B St s.o ι w) s.o ι c y := by
    rcases hu with ⟨rfl, rfl⟩ | ⟨ad, k, c, news, rfl, hk2, hnl, hnc, hnr⟩
    · refine ⟨v, w, [], run_append_owned_none w B t ty e i de.size hux i1 v l.length xs hown, by simpa using hown, ⟨rfl, rfl, rfl, Nat.le_refl _, fun _ _ _ => rfl⟩, fun b hb => .inl hb, fun j y hy => (by simp at hy)⟩
    · subst hk2
      have one : ∀ x ∈ news, x.oneCell' = true := fun x hx => by
        obtain ⟨j, hj⟩ := List.getElem?_of_mem hx
        have hjl := (List.getElem?_eq_some_iff.1 hj).1
        have : j < m.flatten.length := by rw [flat_size hm]; omega
        obtain ⟨c', hc', hl', hr'⟩ := hnr j _ (List.getElem?_eq_getElem this)
        rw [hj] at hc'
        cases hc'
        exact hr'.one hl'
      rw [← i2] at hown hnl
      obtain ⟨v', w', r1, r2, r3, r4⟩ := append_own (P := P) B t ty e i z hux i1 i4 hzs (by omega) v l.length xs hown ad m.length c news hnl hnc one (by simp only [maxLen]; omega) (by rw [i3]; exact hb1) h.hB
      rw [i2] at r2
      exact ⟨v', w', news, r1, r2, r3, r4, hnr⟩
  have hxl : xs.length = l.length * de.size := hown.1
  have v1 : v'.oneCell' = true := by rcases r2.2 with ⟨h4, _⟩ | ⟨_, _, _, h4, _⟩ <;> (rw [h4]; rfl)
  have oid : (s.ob id ⟨g, .rowA e de.size (l ++ m)⟩).o id = ⟨g, .rowA e de.size (l ++ m)⟩ := if_pos rfl
  refine ⟨fun j => if j = id then v' else ι j, v', w', r1, Rel.next h id _ v' dst _ _ ?_ (fun j hj => if_neg hj) (if_pos rfl) (Nat.le_of_lt hg) (fun e2 => absurd e2 (Nat.ne_of_lt hg)) (fun b hb hne => r3.block b hb (fun e2 => hne (hmbv b e2.symm))) (fun b e2 => ?_) (fun mT mA => ?_) (fun mT mA _ => ?_)⟩
  · exact (Below.refl B w).grown r3 h.hB (fun b hb => (hown.lt b hb).1)
  · unfold mb at e2
    rw [oid] at e2
    simp only [if_true] at e2
    have : v'.ownBlock = some b := by
      cases v' <;> first | (cases v1; done) | skip
      all_goals first
        | (rcases r2.2 with ⟨h4, _⟩ | ⟨_, _, _, h4, _⟩ <;> cases h4; done)
        | (rename_i p _ _; cases p <;> first | (cases e2; done) | exact e2)
    rcases r4 b this with h5 | h5
    · exact .inl (hmbv b h5)
    · exact .inr h5
  · refine ⟨fun x hx => ?_, xs ++ news, by rw [List.length_append]; exact r2, fun j y hy => ?_⟩
    · rcases List.mem_append.1 hx with hx | hx
      · exact hl x hx
      · exact hm x hx
    · rw [List.flatten_append] at hy
      have hfl : l.flatten.length = xs.length := by rw [hxl, flat_size hl]
      by_cases hj : j < l.flatten.length
      · rw [List.getElem?_append_left hj] at hy
        obtain ⟨c, p1, p2, p3⟩ := hxs j y hy
        exact ⟨c, by rw [List.getElem?_append_left (by omega)]; exact p1, p2, mA _ _ p3⟩
      · rw [List.getElem?_append_right (by omega)] at hy
        obtain ⟨c, p1, p2, p3⟩ := r5 _ y hy
        exact ⟨c, by rw [List.getElem?_append_right (by omega), ← hfl]; exact p1, p2, mA _ _ p3⟩
  · refine .row ?_ (fun _ => (if_pos rfl : (if id = id then v' else ι id) = v').symm) v1
    rw [oid]
    exact Nat.le_refl _
end
end Go.Proofs.YtfflfmpkjcomgaaDoor
