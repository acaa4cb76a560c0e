/- The engine, 19: what a law is handed is data. -/
import Derived.Test.YtfflfmpkjcomgaaDoorEng18
import Derived.WideShapes
import Derived.ChangeShapes
import Derived.Deep.Slices
import Derived.DataShut
import Derived.RowKit3
namespace Go.Proofs.YtfflfmpkjcomgaaDoor
open Go.RowKit Go.WideShapes Go.ChangeShapes Go.Deep

section
variable {H : Type} {enc : TypeId × Value → H} {P : Program} {W : World} {Bw : Nat → Prop} {α β : Type}
/-- these cells are this data -/
def CsR (W : World) (xs : List Value) (ts : List T) : Prop := xs.length = ts.length ∧ ∀ (j : Nat) t, ts[j]? = some t → ∃ c, xs[j]? = some c ∧ t.leaf = true ∧ Rt W (fun g => g < W.heap.size) c t
theorem CsR.app {xs ys : List Value} {ts us : List T} (h : CsR W xs ts) (k : CsR W ys us) : CsR W (xs ++ ys) (ts ++ us) := by
  refine ⟨by rw [List.length_append, List.length_append, h.1, k.1], fun j t ht => ?_⟩
  by_cases hj : j < ts.length
  · rw [List.getElem?_append_left hj] at ht
    rw [List.getElem?_append_left (by rw [h.1]; exact hj)]
    exact h.2 j t ht
  · rw [List.getElem?_append_right (Nat.le_of_not_lt hj)] at ht
    rw [List.getElem?_append_right (by rw [h.1]; exact Nat.le_of_not_lt hj), h.1]
    exact k.2 _ t ht
/-- what is read at this type is this data -/
def Opn (enc : TypeId × Value → H) (P : Program) (W : World) (Bw : Nat → Prop) (t : TypeId) (e : α → List T) (Pr : α → Prop) : Prop :=
  ∀ n xs y, DataW.trod enc P W 0 (fun _ => true) true n t xs = some y → xs.length = P.cellsOf t → (∀ q ∈ y.1.weights P t, Bw q) → ∃ a, Pr a ∧ CsR W xs (e a)
theorem csr_one {c : Value} {t : T} (hl : t.leaf = true) (h : Rt W (fun g => g < W.heap.size) c t) : CsR W [c] [t] :=
  ⟨rfl, fun j x hx => by
    cases j with
    | zero => cases hx; exact ⟨c, rfl, hl, h⟩
    | succ j => simp at hx⟩
theorem opn_int {t : TypeId} {k : IntKind} (ht : P.underlying t = some (.int k)) : Opn enc P W Bw t (fun n : Int => [T.i k n]) fun n => (Lit.int k n).wf = true := fun n xs y h _ _ => by
  cases n with
  | zero => simp [DataW.trod] at h
  | succ n =>
    unfold DataW.trod at h
    rw [ht] at h
    split at h <;> simp_all
    exact ⟨_, h.1.2, csr_one rfl (.i _ _)⟩
theorem opn_bool {t : TypeId} (ht : P.underlying t = some .bool) : Opn enc P W Bw t (fun b : Bool => [T.b b]) fun _ => True := fun n xs y h _ _ => by
  cases n with
  | zero => simp [DataW.trod] at h
  | succ n =>
    unfold DataW.trod at h
    rw [ht] at h
    obtain ⟨b, rfl⟩ : ∃ b, xs = [.bool b] := by split at h <;> simp_all
    exact ⟨b, trivial, csr_one rfl (.b b)⟩
theorem opn_string {t : TypeId} (ht : P.underlying t = some .string) : Opn enc P W Bw t (fun s : ByteArray => [T.s s]) fun s => s.size ≤ maxLen := fun n xs y h _ _ => by
  cases n with
  | zero => simp [DataW.trod] at h
  | succ n =>
    unfold DataW.trod at h
    rw [ht] at h
    split at h <;> simp_all
    exact ⟨_, h.1, csr_one rfl (.s _)⟩
theorem choose_list {Q : Nat → α → Prop} : ∀ n : Nat, (∀ i, i < n → ∃ a, Q i a) → ∃ l : List α, l.length = n ∧ ∀ (i : Nat) a, l[i]? = some a → Q i a
  | 0, _ => ⟨[], rfl, fun i a h => by simp at h⟩
  | n + 1, h => by
    obtain ⟨l, h1, h2⟩ := choose_list n (fun i hi => h i (by omega))
    obtain ⟨a, ha⟩ := h n (by omega)
    refine ⟨l ++ [a], by rw [List.length_append, h1]; rfl, fun i b hb => ?_⟩
    by_cases hi : i < l.length
    · rw [List.getElem?_append_left hi] at hb
      exact h2 i b hb
    · rw [List.getElem?_append_right (Nat.le_of_not_lt hi)] at hb
      have : i - l.length = 0 := by
        have := (List.getElem?_eq_some_iff.1 hb).1
        simp at this
        omega
      rw [this] at hb
      cases hb
      rw [show i = n by omega]
      exact ha
theorem opn_slice {t e' : TypeId} {z : Nat} {e : α → List T} {Pr : α → Prop} (ht : P.underlying t = some (.slice e')) (hz : P.cellsOf e' = z) (hz0 : 0 < z) (hz1 : ∀ a, (e a).length = z) (he : Opn enc P W Bw e' e Pr) :
    Opn enc P W Bw t (fun l : List α => [T.sl (l.map e)]) fun l => (∀ a ∈ l, Pr a) ∧ l.length ≤ maxLen ∧ (l = [] ∨ ∃ sp, Bw ((l.length + sp) * P.bytesOf e')) := fun n xs y h _ hB => by
  rcases open_slice ht h with ⟨h1, _⟩ | ⟨a, len, cap, m, n', D, Pl, hcs, _, hlc, hcm, hm, hy1, hi⟩
  · rw [h1]
    exact ⟨[], ⟨fun _ h => (by cases h), Nat.zero_le _, .inl rfl⟩, csr_one rfl (.sl0 none 0 (fun _ => rfl))⟩
  · rw [hcs]
    simp only [if_true] at hm
    subst hm
    have hw : ∀ {l : List (DataW H)} {d : DataW H} {q : Nat}, d ∈ l → q ∈ d.weights P e' → q ∈ DataW.weightsAll P e' l := fun {l} => by
      induction l with
      | nil => intro d q h; cases h
      | cons x l ih =>
        intro d q h hq
        unfold DataW.weightsAll
        rcases List.mem_cons.1 h with rfl | h
        · exact List.mem_append_left _ hq
        · exact List.mem_append_right _ (ih h hq)
    have hwt : y.1.weights P t = (((List.range len).map D).length + ((List.range (m - len)).map fun j => D (len + j)).length) * P.bytesOf e' :: (DataW.weightsAll P e' ((List.range len).map D) ++ DataW.weightsAll P e' ((List.range (m - len)).map fun j => D (len + j))) := by
      rw [hy1]
      simp only [DataW.weights, ht]
    rw [hwt] at hB
    have hat : ∀ i, i < len → ∃ x : α, Pr x ∧ ∀ (j : Nat) u, (e x)[j]? = some u → ∃ c, W.cell? (a.add (i * z + j)) = some c ∧ u.leaf = true ∧ Rt W (fun g => g < W.heap.size) c u := by
      intro i hi'
      obtain ⟨cs', hc, hy⟩ := hi i (by omega)
      rw [hz] at hc
      obtain ⟨_, hlen, hcell⟩ := World.cells?_some hc
      obtain ⟨x, hp, hx⟩ := he _ _ _ hy (by rw [hlen, hz]) (fun q hq => hB q (List.mem_cons_of_mem _ (List.mem_append_left _ (hw (List.mem_map.2 ⟨i, List.mem_range.2 hi', rfl⟩) hq))))
      refine ⟨x, hp, fun j u hu => ?_⟩
      obtain ⟨c, h1, h2, h3⟩ := hx.2 j u hu
      have hj : j < z := by have := (List.getElem?_eq_some_iff.1 hu).1; rwa [hz1] at this
      exact ⟨c, by rw [← h1, ← hcell j hj, Go.Deep.add_add], h2, h3⟩
    obtain ⟨l, hll, hl⟩ := choose_list len hat
    refine ⟨l, ⟨fun x hx => ?_, by rw [hll]; exact Nat.le_trans hlc hcm, .inr ⟨_, by have := hB _ List.mem_cons_self; rwa [List.length_map, List.length_range, ← hll] at this⟩⟩, csr_one rfl ?_⟩
    · obtain ⟨j, hj⟩ := List.getElem?_of_mem hx
      exact (hl j x hj).1
    · rcases Nat.eq_zero_or_pos len with h0 | h0
      · subst h0
        obtain rfl := List.length_eq_zero_iff.1 hll
        exact .sl0 (some a) _ (fun h => by cases h)
      · obtain ⟨ab, ao, asp⟩ := a
        have flat : ∀ (j : Nat) u, (l.map e).flatten[j]? = some u → ∃ c, W.cell? ((⟨ab, ao, asp⟩ : Addr).add j) = some c ∧ u.leaf = true ∧ Rt W (fun g => g < W.heap.size) c u := fun j u hu => by
          have hzl : ∀ x ∈ l.map e, x.length = z := fun x hx => by obtain ⟨y, _, rfl⟩ := List.mem_map.1 hx; exact hz1 y
          have hj : j < len * z := by
            have := (List.getElem?_eq_some_iff.1 hu).1
            rwa [flat_size hzl, List.length_map, hll] at this
          have hq : j / z < len := Nat.div_lt_of_lt_mul (by rw [Nat.mul_comm]; exact hj)
          have hm := Nat.mod_lt j hz0
          have hdm := Nat.div_add_mod j z
          obtain ⟨x, hx⟩ : ∃ x, l[j / z]? = some x := ⟨_, List.getElem?_eq_getElem (by omega)⟩
          obtain ⟨v, hv⟩ : ∃ v, (e x)[j % z]? = some v := ⟨_, List.getElem?_eq_getElem (by rw [hz1]; exact hm)⟩
          have := flat_in hzl (show (l.map e)[j / z]? = some (e x) by rw [List.getElem?_map, hx]; rfl) hv
          rw [show j / z * z + j % z = j by rw [Nat.mul_comm]; exact hdm, hu] at this
          cases this
          have := (hl (j / z) x hx).2 (j % z) u hv
          rwa [show j / z * z + j % z = j by rw [Nat.mul_comm]; exact hdm] at this
        have some0 : ∃ c, W.cell? (⟨ab, ao, asp⟩ : Addr) = some c := by
          obtain ⟨x, hx⟩ : ∃ x, l[0]? = some x := ⟨_, List.getElem?_eq_getElem (by omega)⟩
          obtain ⟨v, hv⟩ : ∃ v, (e x)[0]? = some v := ⟨_, List.getElem?_eq_getElem (by rw [hz1]; exact hz0)⟩
          obtain ⟨c, h1, _⟩ := (hl 0 x hx).2 0 v hv
          rw [show (⟨ab, ao, asp⟩ : Addr).add (0 * z + 0) = ⟨ab, ao, asp⟩ by rw [Nat.zero_mul]; rfl] at h1
          exact ⟨c, h1⟩
        obtain ⟨c0, hc0⟩ := some0
        have hsp : asp = none := by
          rcases asp with _ | s
          · rfl
          · exfalso
            unfold World.cell? at hc0
            split at hc0 <;> simp at hc0
        subst hsp
        have hadd : ∀ j, (⟨ab, ao, none⟩ : Addr).add j = ⟨ab, ao + j, none⟩ := fun j => by
          unfold Addr.add
          split
          · rename_i h0; subst h0; rfl
          · rfl
        have hlt : ab < W.heap.size := by
          rcases Nat.lt_or_ge ab W.heap.size with h | h
          · exact h
          · exfalso
            unfold World.cell? at hc0
            rw [Array.getElem?_eq_none h] at hc0
            simp at hc0
        have hzl : ∀ x ∈ l.map e, x.length = z := fun x hx => by obtain ⟨y, _, rfl⟩ := List.mem_map.1 hx; exact hz1 y
        refine .sl ab ao len _ z (l.map e) (fun j => (W.cell? ⟨ab, ao + j, none⟩).getD undef) (by rw [List.length_map, hll]) hlc hlt hzl (fun j hj => ?_) (fun j u hu => ?_) (fun j u hu => ?_)
        · obtain ⟨u, hu⟩ : ∃ u, (l.map e).flatten[j]? = some u := ⟨_, List.getElem?_eq_getElem (by rw [flat_size hzl]; exact hj)⟩
          obtain ⟨c, h1, _⟩ := flat j u hu
          rw [hadd] at h1
          rw [h1]
          rfl
        · obtain ⟨c, _, h2, _⟩ := flat j u hu
          exact h2
        · obtain ⟨c, h1, _, h3⟩ := flat j u hu
          rw [hadd] at h1
          rw [h1]
          exact h3
/-- fields, one behind the other -/
def OpF (enc : TypeId × Value → H) (P : Program) (W : World) (Bw : Nat → Prop) (fs : List Field) (off tot : Nat) (e : α → List T) (Pr : α → Prop) : Prop :=
  ∀ n (xs : List Value) ys, xs.length = off + tot → fs.mapM (fun f => DataW.trod enc P W 0 (fun _ => true) true n f.type ((xs.drop f.offset).take (P.cellsOf f.type))) = some ys → (∀ q ∈ DataW.weightsEach P (fs.map (·.type)) (ys.map (·.1)), Bw q) → ∃ a, Pr a ∧ CsR W (xs.drop off) (e a)
theorem opf_nil {off : Nat} : OpF enc P W Bw [] off 0 (fun _ : Unit => []) fun _ => True := fun n xs ys hl _ _ =>
  ⟨(), trivial, by rw [List.drop_eq_nil_of_le (by omega)]; exact ⟨rfl, fun j t h => by simp at h⟩⟩
theorem opf_cons {f : Field} {fs : List Field} {off z tot : Nat} {e : α → List T} {e2 : β → List T} {Pr : α → Prop} {Pr2 : β → Prop} (ho : f.offset = off) (hz : P.cellsOf f.type = z) (he : Opn enc P W Bw f.type e Pr) (hr : OpF enc P W Bw fs (off + z) tot e2 Pr2) :
    OpF enc P W Bw (f :: fs) off (z + tot) (fun p : α × β => e p.1 ++ e2 p.2) fun p => Pr p.1 ∧ Pr2 p.2 := fun n xs ys hl h hB => by
  rw [List.mapM_cons] at h
  obtain ⟨y, hy, h⟩ := Option.bind_eq_some_iff.1 h
  obtain ⟨ys', hys, h⟩ := Option.bind_eq_some_iff.1 h
  obtain rfl : y :: ys' = ys := by simpa using h
  simp only [List.map_cons, DataW.weightsEach, List.mem_append] at hB
  rw [ho, hz] at hy
  have hlen : ((xs.drop off).take z).length = z := by rw [List.length_take, List.length_drop]; omega
  obtain ⟨a, ha, hca⟩ := he _ _ _ hy (by rw [hlen, hz]) (fun q hq => hB q (.inl hq))
  obtain ⟨b, hb, hcb⟩ := hr n xs ys' (by omega) hys (fun q hq => hB q (.inr hq))
  refine ⟨(a, b), ⟨ha, hb⟩, ?_⟩
  have := hca.app hcb
  rwa [← List.drop_drop, List.take_append_drop] at this
theorem opn_struct {t : TypeId} {fs : Array Field} {tot : Nat} {e : α → List T} {Pr : α → Prop} (ht : P.underlying t = some (.struct fs)) (hc : P.cellsOf t = tot) (hf : OpF enc P W Bw fs.toList 0 tot e Pr) : Opn enc P W Bw t e Pr := fun n xs y h hl hB => by
  cases n with
  | zero => simp [DataW.trod] at h
  | succ n =>
    unfold DataW.trod at h
    simp only [ht] at h
    rw [if_pos hl] at h
    obtain ⟨ys, hys, rfl⟩ := Option.map_eq_some_iff.1 h
    have := hf n xs ys (by rw [hl, hc, Nat.zero_add]) hys (by simpa only [DataW.weights, ht] using hB)
    rwa [List.drop_zero] at this
theorem opn_pair {t e' : TypeId} {z : Nat} {e : α → List T} {Pr : α → Prop} (ht : P.underlying t = some (.array 2 e')) (hz : P.cellsOf e' = z) (hc : P.cellsOf t = z + z) (he : Opn enc P W Bw e' e Pr) : Opn enc P W Bw t (fun p : α × α => e p.1 ++ e p.2) fun p => Pr p.1 ∧ Pr p.2 := fun n xs y h hl hB => by
  cases n with
  | zero => simp [DataW.trod] at h
  | succ n =>
    unfold DataW.trod at h
    simp only [ht] at h
    rw [if_pos hl] at h
    · obtain ⟨ys, hys, rfl⟩ := Option.map_eq_some_iff.1 h
      rw [show List.range 2 = [0, 1] from rfl, List.mapM_cons] at hys
      obtain ⟨y0, h0, hys⟩ := Option.bind_eq_some_iff.1 hys
      obtain ⟨ys', hys, hy1⟩ := Option.bind_eq_some_iff.1 hys
      rw [List.mapM_cons] at hys
      obtain ⟨y1, h1, hys⟩ := Option.bind_eq_some_iff.1 hys
      obtain rfl : ys = [y0, y1] := by simp at hys hy1; rw [← hy1, ← hys]
      simp only [DataW.weights, ht, List.map_cons, List.map_nil, DataW.weightsAll, List.mem_append] at hB
      rw [hz, Nat.zero_mul, List.drop_zero] at h0
      rw [hz, Nat.one_mul] at h1
      obtain ⟨a, ha, hca⟩ := he _ _ _ h0 (by rw [List.length_take, hl, hc, hz]; omega) (fun q hq => hB q (.inl hq))
      obtain ⟨b, hb, hcb⟩ := he _ _ _ h1 (by rw [List.length_take, List.length_drop, hl, hc, hz]; omega) (fun q hq => hB q (.inr (.inl hq)))
      refine ⟨(a, b), ⟨ha, hb⟩, ?_⟩
      have := hca.app hcb
      rwa [show (xs.drop z).take z = xs.drop z from List.take_of_length_le (by rw [List.length_drop, hl, hc]; omega), List.take_append_drop] at this
theorem Opn.to {t : TypeId} {e : α → List T} {e2 : β → List T} {Pr : α → Prop} {Pr2 : β → Prop} (h : Opn enc P W Bw t e Pr) (f : α → β) (hf : ∀ a, e a = e2 (f a)) (hp : ∀ a, Pr a → Pr2 (f a)) : Opn enc P W Bw t e2 Pr2 := fun n xs y ht hl hB => by
  obtain ⟨a, h1, h2⟩ := h n xs y ht hl hB
  exact ⟨f a, hp a h1, by rw [← hf]; exact h2⟩
/-- a value of one cell -/
theorem Opn.one {t : TypeId} {e : α → T} {Pr : α → Prop} (h : Opn enc P W Bw t (fun a => [e a]) Pr) (hc : P.cellsOf t = 1) {v : Value} (hv : v.cells = #[v]) {d : DataW H} {p : List MemPlace} (ht : DataW.Trod enc P W 0 (fun _ => true) true t v d p) (hB : ∀ q ∈ d.weights P t, Bw q) : ∃ a, Pr a ∧ Rt W (fun g => g < W.heap.size) v (e a) := by
  obtain ⟨n, hn⟩ := ht
  rw [hv] at hn
  obtain ⟨a, h1, h2⟩ := h n [v] _ hn hc.symm hB
  obtain ⟨c, h3, _, h4⟩ := h2.2 0 (e a) rfl
  cases h3
  exact ⟨a, h1, h4⟩
theorem Opn.sl {t e' : TypeId} {r : Reach} {b0 : Nat} {e : α → T} {Pr : α → Prop} (h : Opn enc P W Bw t (fun a => [e a]) Pr) (hu : P.underlying t = some (.slice e')) (hc : P.cellsOf t = 1) {v : Value} (hv : Value.okWide P W r b0 t v) {d : DataW H} {p : List MemPlace} (ht : DataW.Trod enc P W 0 (fun _ => true) true t v d p) (hB : ∀ q ∈ d.weights P t, Bw q) : ∃ a, Pr a ∧ Rt W (fun g => g < W.heap.size) v (e a) := by
  obtain ⟨a, len, cap, rfl⟩ := okWide_slice hu hv
  exact h.one hc rfl ht hB
theorem Opn.int {t : TypeId} {k : IntKind} {r : Reach} {b0 : Nat} (hu : P.underlying t = some (.int k)) (hc : P.cellsOf t = 1) {v : Value} (hv : Value.okWide P W r b0 t v) {d : DataW H} {p : List MemPlace} (ht : DataW.Trod enc P W 0 (fun _ => true) true t v d p) : ∃ n, (Lit.int k n).wf = true ∧ Rt W (fun g => g < W.heap.size) v (.i k n) := by
  obtain ⟨n, rfl⟩ := okWide_int hu hv
  exact (opn_int hu).one (e := fun n => T.i k n) hc rfl ht (Bw := fun _ => True) (fun _ _ => trivial)
theorem Opn.ag {t : TypeId} {fs : Array Field} {r : Reach} {b0 : Nat} {e : α → List T} {Pr : α → Prop} (h : Opn enc P W Bw t e Pr) (hu : P.underlying t = some (.struct fs)) {v : Value} (hv : Value.okWide P W r b0 t v) {d : DataW H} {p : List MemPlace} (ht : DataW.Trod enc P W 0 (fun _ => true) true t v d p) (hB : ∀ q ∈ d.weights P t, Bw q) : ∃ a, Pr a ∧ Rt W (fun g => g < W.heap.size) v (.ag (e a)) := by
  obtain ⟨cs, rfl, hz⟩ := okWide_struct hu hv
  obtain ⟨n, hn⟩ := ht
  obtain ⟨a, h1, h2⟩ := h n cs.toList _ hn (by simpa using hz) hB
  refine ⟨a, h1, .ag cs (e a) (fun j => cs.getD j undef) (by simpa using h2.1) (fun j hj => ?_) (fun j u hu => ?_) (fun j u hu => ?_)⟩
  · have : j < cs.size := by have := h2.1; simp at this; omega
    simp [Array.getD_eq_getD_getElem?, this]
  · obtain ⟨c, _, h3, _⟩ := h2.2 j u hu
    exact h3
  · obtain ⟨c, h3, _, h4⟩ := h2.2 j u hu
    rw [show cs.getD j undef = c by simp at h3; simp [Array.getD_eq_getD_getElem?, h3]]
    exact h4
theorem Opn.bool {t : TypeId} {r : Reach} {b0 : Nat} (hu : P.underlying t = some .bool) (hc : P.cellsOf t = 1) {v : Value} (hv : Value.okWide P W r b0 t v) {d : DataW H} {p : List MemPlace} (ht : DataW.Trod enc P W 0 (fun _ => true) true t v d p) : ∃ b : Bool, True ∧ Rt W (fun g => g < W.heap.size) v (.b b) := by
  obtain ⟨b, rfl⟩ := okWide_bool hu hv
  exact (opn_bool hu).one (e := fun b => T.b b) hc rfl ht (Bw := fun _ => True) (fun _ _ => trivial)
theorem Opn.str {t : TypeId} {r : Reach} {b0 : Nat} (hu : P.underlying t = some .string) (hc : P.cellsOf t = 1) {v : Value} (hv : Value.okWide P W r b0 t v) {d : DataW H} {p : List MemPlace} (ht : DataW.Trod enc P W 0 (fun _ => true) true t v d p) : ∃ s : ByteArray, s.size ≤ maxLen ∧ Rt W (fun g => g < W.heap.size) v (.s s) := by
  obtain ⟨s, rfl⟩ := okWide_string hu hv
  exact (opn_string hu).one (e := fun s => T.s s) hc rfl ht (Bw := fun _ => True) (fun _ _ => trivial)
theorem i64_of {n : Int} (h : (Lit.int .i64 n).wf = true) : -9223372036854775808 ≤ n ∧ n ≤ 9223372036854775807 := by
  rw [Lit.wf_int_iff] at h
  rw [show IntKind.i64.min = -9223372036854775808 from by decide, show IntKind.i64.max = 9223372036854775807 from by decide] at h
  exact h
/-- a law that tells true -/
theorem law_calls {f : FuncId} {args : List T} (h : Ct P (fun _ => True) f args [.b true]) (cargs : Array Value) (hsz : cargs.size = args.length) (harg : ∀ (j : Nat) v t, cargs[j]? = some v → args[j]? = some t → Rt W (fun g => g < W.heap.size) v t) :
    Calls P f cargs W fun e W' => e = .returned (.bool true) ∧ Below W.heap.size W W' :=
  (h.calls W cargs (fun _ _ => trivial) hsz harg).mono (fun e W' ⟨v, h1, h2, h3⟩ => by
    subst h1
    have h2 : Rt W' (fun g => g < W'.heap.size) v (.b true) := h2
    cases h2
    exact ⟨rfl, h3⟩)
end
end Go.Proofs.YtfflfmpkjcomgaaDoor
