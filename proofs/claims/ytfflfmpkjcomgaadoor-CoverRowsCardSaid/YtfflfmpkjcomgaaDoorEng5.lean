/- The engine, 5: stores, appends, made slices. -/
import Derived.Test.YtfflfmpkjcomgaaDoorEng4
import Derived.Laws.CopyRow
namespace Go.Proofs.YtfflfmpkjcomgaaDoor
open Go.RowKit

theorem setR_len {α : Type} (l : List α) (off : Nat) (cs : List α) (h : off + cs.length ≤ l.length) : (setR l off cs).length = l.length := by
  unfold setR
  simp
  omega
theorem setR_at {α : Type} (l : List α) (off : Nat) (cs : List α) (h : off + cs.length ≤ l.length) (j : Nat) : (setR l off cs)[j]? = if j < off then l[j]? else if j < off + cs.length then cs[j - off]? else l[j]? := by
  unfold setR
  have ht : (l.take off).length = off := by simp; omega
  by_cases h1 : j < off
  · rw [if_pos h1, List.getElem?_append_left (by simp; omega), List.getElem?_append_left (by omega), List.getElem?_take, if_pos h1]
  · rw [if_neg h1]
    by_cases h2 : j < off + cs.length
    · rw [if_pos h2, List.getElem?_append_left (by simp; omega), List.getElem?_append_right (by omega), ht]
    · rw [if_neg h2, List.getElem?_append_right (by simp; omega), List.getElem?_drop]
      congr 1
      simp
      omega
theorem flat_setR {α : Type} {z : Nat} : ∀ {l : List (List α)} {i off : Nat} {e cs : List α}, (∀ e ∈ l, e.length = z) → l[i]? = some e → off + cs.length ≤ e.length → (l.set i (setR e off cs)).flatten = setR l.flatten (i * z + off) cs
  | [], _, _, _, _, _, h, _ => by simp at h
  | x :: l, 0, off, e, cs, hz, h, hl => by
    simp only [List.getElem?_cons_zero, Option.some.injEq] at h
    subst h
    rw [List.set_cons_zero, List.flatten_cons, List.flatten_cons, Nat.zero_mul, Nat.zero_add]
    unfold setR
    rw [List.take_append_of_le_length (by omega), List.drop_append_of_le_length hl]
    simp
  | x :: l, i + 1, off, e, cs, hz, h, hl => by
    have hx := hz x List.mem_cons_self
    rw [List.set_cons_succ, List.flatten_cons, List.flatten_cons, flat_setR (fun y hy => hz y (List.mem_cons_of_mem _ hy)) (by simpa using h) hl]
    unfold setR
    have e1 : (i + 1) * z + off = x.length + (i * z + off) := by rw [hx, Nat.add_mul]; omega
    rw [e1, List.take_length_add_append, Nat.add_assoc x.length, List.drop_length_add_append]
    simp
theorem arr_setR (cur : Array Value) (off : Nat) (vs : List Value) : (cur.toList.take off ++ vs ++ cur.toList.drop (off + vs.length)) = setR cur.toList off vs := rfl

section
variable {P : Program} {tt : Tys} {Hy : World → Prop} {X : World → (Nat → Prop) → (Nat → O) → (Nat → Value) → Prop} {B : Nat} {St : Nat → Prop} {Dp : List Deferred → Prop} {w0 w : World} {s : S} {ι : Nat → Value} {a : Act}

theorem below_set {B g : Nat} {w : World} (hBg : B ≤ g) (cs : Array Value) : Below B w (w.setRow g cs) :=
  ⟨rfl, rfl, rfl, by simp, fun k hk => setRow_other w g k cs (by omega)⟩

theorem storeVar_run {ty : TypeId} {td : TD} (ht : TdOk P ty td) (g o : Nat) (t : TypeId) (cur : Array Value) (v : Value) (hg : w.heap[g]? = some (.cells cur t (0, 0))) (hs : v.cells.size = td.size) (hl : o + td.size ≤ cur.size) (h1 : ∀ c ∈ v.cells.toList, c.oneCell' = true) :
    (Instr.storeAt ty (.pointer (some ⟨g, o, none⟩)) v).run P w = .ok () (w.setRow g (setR cur.toList o v.cells.toList).toArray) := by
  have sz : (sizeOf ty).run P w = .ok td.size w := ht.size
  have := run_storeCells_at (P := P) g o t v.cells.toList 0 cur w hg (by simp; omega) h1
  simp only [Nat.add_zero, arr_setR] at this
  simp [Instr.storeAt, Instr.sureAddr, storeVar, sz, hs, this]

theorem store_cells (h : Rel Hy X B St w0 Dp s ι a w) (hT : Tys.ok P tt) {ty : TypeId} {td : TD} (hd : tt ty = some td) {x v : Operand} {id g off : Nat} (e : s.ev x = .ptr id g off) (hg : g = (s.o id).gen) {ty' : TypeId} {l : List A} (hk : (s.o id).k = .cells ty' l)
    (h1 : (cellsA (s.ev v)).length = td.size) (h2 : (cellsA (s.ev v)).all A.leaf = true) (h3 : off + td.size ≤ l.length) (dst : Option Nat) :
    ∃ w', (Instr.storeAt ty (a.eval x) (a.eval v)).run P w = .ok () w' ∧ Rel Hy X B St w0 Dp ((s.ob id ⟨g, .cells ty' (setR l off (cellsA (s.ev v)))⟩).put dst .junk) ι (a.put dst undef) w' := by
  have hx := h.ev x
  rw [e] at hx
  obtain ⟨blk, hi, hv⟩ := hx.ptr_get hg
  have ho := h.ob id
  rw [hk] at ho
  obtain ⟨blk', cs, k1, k2, k3, k4, k5⟩ := ho
  rw [hi] at k1
  cases k1
  obtain ⟨c1, c2⟩ := cells_get (h.ev v) h2
  have hvl : (a.eval v).cells.toList.length = td.size := by simp [c1, h1]
  have one : ∀ c ∈ (a.eval v).cells.toList, c.oneCell' = true := fun c hc => by
    obtain ⟨j, hj⟩ := List.getElem?_of_mem hc
    have hjl := (List.getElem?_eq_some_iff.1 hj).1
    have hjl2 : j < (cellsA (s.ev v)).length := by rw [← c1]; simpa using hjl
    obtain ⟨c', hc', hr⟩ := c2 j _ (List.getElem?_eq_getElem hjl2)
    have : c' = c := by
      have hj' : (a.eval v).cells[j]? = some c := by simpa using hj
      rw [hj'] at hc'
      exact (Option.some.inj hc').symm
    subst this
    exact hr.one (List.all_eq_true.1 h2 _ (List.getElem_mem hjl2))
  have hmb : mb s.o ι id = some blk := by unfold mb; rw [hk, hi]; rfl
  have hcl : off + (a.eval v).cells.toList.length ≤ cs.toList.length := by rw [hvl]; simp; omega
  have hal : off + (cellsA (s.ev v)).length ≤ l.length := by omega
  refine ⟨_, by rw [hv]; exact storeVar_run (hT _ _ hd) blk off ty' cs _ k3 (by simpa using hvl) (by omega) one, ?_⟩
  refine Rel.next h id ⟨g, .cells ty' (setR l off (cellsA (s.ev v)))⟩ (ι id) dst _ _ (below_set k2 _) (fun _ _ => rfl) rfl (Nat.le_of_eq hg.symm) (fun _ => rfl) (fun b hb hne => setRow_other _ _ _ _ (fun e2 => hne (by rw [hmb, e2]))) (fun b e2 => .inl ?_) (fun mT mA => ?_) (fun _ _ _ => .junk)
  · unfold mb at e2 ⊢
    rw [show (s.ob id ⟨g, .cells ty' (setR l off (cellsA (s.ev v)))⟩).o id = ⟨g, .cells ty' (setR l off (cellsA (s.ev v)))⟩ from if_pos rfl] at e2
    rw [hk]
    exact e2
  · refine ⟨blk, _, hi, k2, setRow_heap w blk cs _ ty' (0, 0) k3, by simp [setR_len _ _ _ hcl, setR_len _ _ _ hal, k4], fun j y hy => ?_⟩
    rw [setR_at _ _ _ hal] at hy
    have get : ∀ c, (setR cs.toList off (a.eval v).cells.toList)[j]? = some c → (setR cs.toList off (a.eval v).cells.toList).toArray[j]? = some c := fun c hc => by simpa using hc
    have at2 := setR_at cs.toList off (a.eval v).cells.toList hcl j
    rw [hvl] at at2
    rw [h1] at hy
    split at hy
    · rename_i hj
      obtain ⟨c, p1, p2, p3⟩ := k5 j y hy
      exact ⟨c, get c (by rw [at2, if_pos hj]; simpa using p1), p2, mA _ _ p3⟩
    · rename_i hj
      split at hy
      · rename_i hj2
        obtain ⟨c, p1, p2⟩ := c2 _ y hy
        refine ⟨c, get c (by rw [at2, if_neg hj, if_pos hj2]; simpa using p1), List.all_eq_true.1 h2 _ (List.mem_of_getElem? hy), mA _ _ p2⟩
      · rename_i hj2
        obtain ⟨c, p1, p2, p3⟩ := k5 j y hy
        exact ⟨c, get c (by rw [at2, if_neg hj, if_neg hj2]; simpa using p1), p2, mA _ _ p3⟩

theorem cellsT_get {D : Nat → Prop} {v : Value} {t : T} (h : Rt w D v t) : v.cells.size = (cellsT t).length ∧ ∀ (j : Nat) y, (cellsT t)[j]? = some y → ∃ c, v.cells[j]? = some c ∧ Rt w D c y := by
  have one : ∀ {v : Value} {x : T}, v.cells = #[v] → cellsT x = [x] → Rt w D v x → v.cells.size = (cellsT x).length ∧ ∀ (j : Nat) y, (cellsT x)[j]? = some y → ∃ c, v.cells[j]? = some c ∧ Rt w D c y := fun {v x} e1 e2 hr => by
    rw [e1, e2]
    refine ⟨rfl, fun j y hy => ?_⟩
    cases j with
    | zero => cases hy; exact ⟨v, rfl, hr⟩
    | succ j => simp at hy
  cases h with
  | ag cs l c hz hc hl2 hr => exact ⟨hz, fun j y hy => ⟨c j, hc j (List.getElem?_eq_some_iff.1 hy).1, hr j y hy⟩⟩
  | b x => exact one rfl rfl (.b x)
  | i k n => exact one rfl rfl (.i k n)
  | s x => exact one rfl rfl (.s x)
  | sl0 p c hp => exact one rfl rfl (.sl0 p c hp)
  | sl g o n cap z l c hn hq hD hz hc hl2 hr => exact one rfl rfl (.sl g o n cap z l c hn hq hD hz hc hl2 hr)
  | cp blk off l c hD hc hl2 hr => exact one rfl rfl (.cp blk off l c hD hc hl2 hr)
  | ifc ty v x h => exact one rfl rfl (.ifc ty v x h)
  | nif => exact one rfl rfl .nif
  | np => exact one rfl rfl .np
  | yl l => exact one rfl rfl (.yl l)

theorem store_row (h : Rel Hy X B St w0 Dp s ι a w) (hT : Tys.ok P tt) {ty : TypeId} {td : TD} (hd : tt ty = some td) {x v : Operand} {id g z i off : Nat} (e : s.ev x = .rp id g z i off) (hg : g = (s.o id).gen) {ty' : TypeId} {l : List (List T)} (hk : (s.o id).k = .row ty' z l)
    {t : T} (hf : Fz w B St s ι [] (a.eval v) t) (h1 : (cellsT t).length = td.size) (h2 : (cellsT t).all T.leaf = true) {el : List T} (hel : l[i]? = some el) (h3 : off + td.size ≤ el.length) (dst : Option Nat) :
    ∃ w', (Instr.storeAt ty (a.eval x) (a.eval v)).run P w = .ok () w' ∧ Rel Hy X B St w0 Dp ((s.ob id ⟨g, .row ty' z (l.set i (setR el off (cellsT t)))⟩).put dst .junk) ι (a.put dst undef) w' := by
  have hx := h.ev x
  rw [e] at hx
  obtain ⟨blk, n, cap, hi, hv⟩ := hx.rp_get hg
  have ho := h.ob id
  rw [hk] at ho
  obtain ⟨k1, xs, k2, k3⟩ := ho
  have hrt : Rt w (Sd B St s.o ι w) (a.eval v) t := hf _ (fun _ h => h) (fun _ h => (by cases h))
  obtain ⟨c1, c2⟩ := cellsT_get hrt
  have hvl : (a.eval v).cells.toList.length = td.size := by simp [c1, h1]
  have one : ∀ c ∈ (a.eval v).cells.toList, c.oneCell' = true := fun c hc => by
    obtain ⟨j, hj⟩ := List.getElem?_of_mem hc
    have hjl := (List.getElem?_eq_some_iff.1 hj).1
    have hjl2 : j < (cellsT t).length := by rw [← c1]; simpa using hjl
    obtain ⟨c', hc', hr⟩ := c2 j _ (List.getElem?_eq_getElem hjl2)
    have : c' = c := by
      have hj' : (a.eval v).cells[j]? = some c := by simpa using hj
      rw [hj'] at hc'
      exact (Option.some.inj hc').symm
    subst this
    exact hr.one (List.all_eq_true.1 h2 _ (List.getElem_mem hjl2))
  rw [hi] at k2
  have hlen : xs.length = l.length * z := k2.1
  rcases k2.2 with ⟨h4, _⟩ | ⟨blk', cap', cur, h4, hb2, hg2, hle, hcm, hcs, htk⟩
  · cases h4
  cases h4
  have hmb : mb s.o ι id = some blk := by unfold mb; rw [hk, hi]; rfl
  have hil := (List.getElem?_eq_some_iff.1 hel).1
  have helz : el.length = z := k1 el (List.mem_of_getElem? hel)
  have hpos : i * z + off + td.size ≤ l.length * z := by
    calc i * z + off + td.size ≤ i * z + z := by omega
      _ = (i + 1) * z := by rw [Nat.add_mul]; omega
      _ ≤ l.length * z := Nat.mul_le_mul_right _ hil
  have hcz : l.length * z ≤ cur.size := by rw [hcs]; exact Nat.mul_le_mul_right _ hle
  have hcl : i * z + off + (a.eval v).cells.toList.length ≤ cur.toList.length := by rw [hvl]; simp; omega
  have hxl : i * z + off + (a.eval v).cells.toList.length ≤ xs.length := by rw [hvl]; omega
  have hfl : l.flatten.length = l.length * z := flat_size k1
  have htl : i * z + off + (cellsT t).length ≤ l.flatten.length := by rw [h1]; omega
  refine ⟨_, by rw [hv]; exact storeVar_run (hT _ _ hd) blk (i * z + off) ty' cur _ hg2 (by simpa using hvl) (by omega) one, ?_⟩
  have hset : ∀ e' ∈ l.set i (setR el off (cellsT t)), e'.length = z := fun e' he' => by
    rcases List.mem_or_eq_of_mem_set he' with h5 | rfl
    · exact k1 e' h5
    · rw [setR_len _ _ _ (by rw [h1]; exact h3), helz]
  refine Rel.next h id ⟨g, .row ty' z (l.set i (setR el off (cellsT t)))⟩ (ι id) dst _ _ (below_set hb2 _) (fun _ _ => rfl) rfl (Nat.le_of_eq hg.symm) (fun _ => rfl) (fun b hb hne => setRow_other _ _ _ _ (fun e2 => hne (by rw [hmb, e2]))) (fun b e2 => .inl ?_) (fun mT mA => ?_) (fun _ _ _ => .junk)
  · unfold mb at e2 ⊢
    rw [show (s.ob id ⟨g, .row ty' z (l.set i (setR el off (cellsT t)))⟩).o id = ⟨g, .row ty' z (l.set i (setR el off (cellsT t)))⟩ from if_pos rfl] at e2
    rw [hk]
    exact e2
  · refine ⟨hset, setR xs (i * z + off) (a.eval v).cells.toList, ⟨by rw [setR_len _ _ _ hxl, hlen, List.length_set], .inr ⟨blk, cap, _, by rw [hi, List.length_set], hb2, setRow_heap w blk cur _ ty' (0, 0) hg2, by rw [List.length_set]; exact hle, hcm, ?_, ?_⟩⟩, fun j y hy => ?_⟩
    · rw [← hcs]
      simp only [List.size_toArray]
      rw [setR_len _ _ _ hcl]
      simp
    · rw [List.length_set, List.toList_toArray]
      apply List.ext_getElem?
      intro j
      rw [List.getElem?_take, setR_at _ _ _ hcl, setR_at _ _ _ hxl]
      have hx : ∀ j, j < l.length * z → xs[j]? = cur.toList[j]? := fun j hj => by rw [← htk, List.getElem?_take, if_pos hj]
      have hno : ∀ j, ¬ j < l.length * z → xs[j]? = none := fun j hj => by rw [List.getElem?_eq_none_iff]; omega
      rw [hvl]
      by_cases hj : j < l.length * z
      · rw [if_pos hj, hx j hj]
      · rw [if_neg hj, if_neg (by omega), if_neg (by omega), hno j hj]
    · rw [flat_setR k1 hel (by rw [h1]; exact h3), setR_at _ _ _ htl] at hy
      have at2 := setR_at xs (i * z + off) (a.eval v).cells.toList hxl j
      rw [hvl] at at2
      rw [h1] at hy
      split at hy
      · rename_i hj
        obtain ⟨c, p1, p2, p3⟩ := k3 j y hy
        exact ⟨c, by rw [at2, if_pos hj]; exact p1, p2, mT _ _ p3⟩
      · rename_i hj
        split at hy
        · rename_i hj2
          obtain ⟨c, p1, p2⟩ := c2 _ y hy
          exact ⟨c, by rw [at2, if_neg hj, if_pos hj2]; simpa using p1, List.all_eq_true.1 h2 _ (List.mem_of_getElem? hy), mT _ _ p2⟩
        · rename_i hj2
          obtain ⟨c, p1, p2, p3⟩ := k3 j y hy
          exact ⟨c, by rw [at2, if_neg hj, if_neg hj2]; exact p1, p2, mT _ _ p3⟩
theorem store_rowA (h : Rel Hy X B St w0 Dp s ι a w) (hT : Tys.ok P tt) {ty : TypeId} {td : TD} (hd : tt ty = some td) {x v : Operand} {id g z i off : Nat} (e : s.ev x = .rp id g z i off) (hg : g = (s.o id).gen) {ty' : TypeId} {l : List (List A)} (hk : (s.o id).k = .rowA ty' z l)
    (h1 : (cellsA (s.ev v)).length = td.size) (h2 : (cellsA (s.ev v)).all A.leaf = true) {el : List A} (hel : l[i]? = some el) (h3 : off + td.size ≤ el.length) (dst : Option Nat) :
    ∃ w', (Instr.storeAt ty (a.eval x) (a.eval v)).run P w = .ok () w' ∧ Rel Hy X B St w0 Dp ((s.ob id ⟨g, .rowA ty' z (l.set i (setR el off (cellsA (s.ev v))))⟩).put dst .junk) ι (a.put dst undef) w' := by
  have hx := h.ev x
  rw [e] at hx
  obtain ⟨blk, n, cap, hi, hv⟩ := hx.rp_get hg
  have ho := h.ob id
  rw [hk] at ho
  obtain ⟨k1, xs, k2, k3⟩ := ho
  obtain ⟨c1, c2⟩ := cells_get (h.ev v) h2
  have hvl : (a.eval v).cells.toList.length = td.size := by simp [c1, h1]
  have one : ∀ c ∈ (a.eval v).cells.toList, c.oneCell' = true := fun c hc => by
    obtain ⟨j, hj⟩ := List.getElem?_of_mem hc
    have hjl := (List.getElem?_eq_some_iff.1 hj).1
    have hjl2 : j < (cellsA (s.ev v)).length := by rw [← c1]; simpa using hjl
    obtain ⟨c', hc', hr⟩ := c2 j _ (List.getElem?_eq_getElem hjl2)
    have : c' = c := by
      have hj' : (a.eval v).cells[j]? = some c := by simpa using hj
      rw [hj'] at hc'
      exact (Option.some.inj hc').symm
    subst this
    exact hr.one (List.all_eq_true.1 h2 _ (List.getElem_mem hjl2))
  rw [hi] at k2
  have hlen : xs.length = l.length * z := k2.1
  rcases k2.2 with ⟨h4, _⟩ | ⟨blk', cap', cur, h4, hb2, hg2, hle, hcm, hcs, htk⟩
  · cases h4
  cases h4
  have hmb : mb s.o ι id = some blk := by unfold mb; rw [hk, hi]; rfl
  have hil := (List.getElem?_eq_some_iff.1 hel).1
  have helz : el.length = z := k1 el (List.mem_of_getElem? hel)
  have hpos : i * z + off + td.size ≤ l.length * z := by
    calc i * z + off + td.size ≤ i * z + z := by omega
      _ = (i + 1) * z := by rw [Nat.add_mul]; omega
      _ ≤ l.length * z := Nat.mul_le_mul_right _ hil
  have hcz : l.length * z ≤ cur.size := by rw [hcs]; exact Nat.mul_le_mul_right _ hle
  have hcl : i * z + off + (a.eval v).cells.toList.length ≤ cur.toList.length := by rw [hvl]; simp; omega
  have hxl : i * z + off + (a.eval v).cells.toList.length ≤ xs.length := by rw [hvl]; omega
  have hfl : l.flatten.length = l.length * z := flat_size k1
  have htl : i * z + off + (cellsA (s.ev v)).length ≤ l.flatten.length := by rw [h1]; omega
  refine ⟨_, by rw [hv]; exact storeVar_run (hT _ _ hd) blk (i * z + off) ty' cur _ hg2 (by simpa using hvl) (by omega) one, ?_⟩
  have hset : ∀ e' ∈ l.set i (setR el off (cellsA (s.ev v))), e'.length = z := fun e' he' => by
    rcases List.mem_or_eq_of_mem_set he' with h5 | rfl
    · exact k1 e' h5
    · rw [setR_len _ _ _ (by rw [h1]; exact h3), helz]
  refine Rel.next h id ⟨g, .rowA ty' z (l.set i (setR el off (cellsA (s.ev v))))⟩ (ι id) dst _ _ (below_set hb2 _) (fun _ _ => rfl) rfl (Nat.le_of_eq hg.symm) (fun _ => rfl) (fun b hb hne => setRow_other _ _ _ _ (fun e2 => hne (by rw [hmb, e2]))) (fun b e2 => .inl ?_) (fun mT mA => ?_) (fun _ _ _ => .junk)
  · unfold mb at e2 ⊢
    rw [show (s.ob id ⟨g, .rowA ty' z (l.set i (setR el off (cellsA (s.ev v))))⟩).o id = ⟨g, .rowA ty' z (l.set i (setR el off (cellsA (s.ev v))))⟩ from if_pos rfl] at e2
    rw [hk]
    exact e2
  · refine ⟨hset, setR xs (i * z + off) (a.eval v).cells.toList, ⟨by rw [setR_len _ _ _ hxl, hlen, List.length_set], .inr ⟨blk, cap, _, by rw [hi, List.length_set], hb2, setRow_heap w blk cur _ ty' (0, 0) hg2, by rw [List.length_set]; exact hle, hcm, ?_, ?_⟩⟩, fun j y hy => ?_⟩
    · rw [← hcs]
      simp only [List.size_toArray]
      rw [setR_len _ _ _ hcl]
      simp
    · rw [List.length_set, List.toList_toArray]
      apply List.ext_getElem?
      intro j
      rw [List.getElem?_take, setR_at _ _ _ hcl, setR_at _ _ _ hxl]
      have hx : ∀ j, j < l.length * z → xs[j]? = cur.toList[j]? := fun j hj => by rw [← htk, List.getElem?_take, if_pos hj]
      have hno : ∀ j, ¬ j < l.length * z → xs[j]? = none := fun j hj => by rw [List.getElem?_eq_none_iff]; omega
      rw [hvl]
      by_cases hj : j < l.length * z
      · rw [if_pos hj, hx j hj]
      · rw [if_neg hj, if_neg (by omega), if_neg (by omega), hno j hj]
    · rw [flat_setR k1 hel (by rw [h1]; exact h3), setR_at _ _ _ htl] at hy
      have at2 := setR_at xs (i * z + off) (a.eval v).cells.toList hxl j
      rw [hvl] at at2
      rw [h1] at hy
      split at hy
      · rename_i hj
        obtain ⟨c, p1, p2, p3⟩ := k3 j y hy
        exact ⟨c, by rw [at2, if_pos hj]; exact p1, p2, mA _ _ p3⟩
      · rename_i hj
        split at hy
        · rename_i hj2
          obtain ⟨c, p1, p2⟩ := c2 _ y hy
          exact ⟨c, by rw [at2, if_neg hj, if_pos hj2]; simpa using p1, List.all_eq_true.1 h2 _ (List.mem_of_getElem? hy), mA _ _ p2⟩
        · rename_i hj2
          obtain ⟨c, p1, p2, p3⟩ := k3 j y hy
          exact ⟨c, by rw [at2, if_neg hj, if_neg hj2]; exact p1, p2, mA _ _ p3⟩
end
end Go.Proofs.YtfflfmpkjcomgaaDoor
