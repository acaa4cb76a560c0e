import Derived.Test.YtbhoeanfnbkenaaDoorR18
import Derived.Test.YtbhoeanfnbkenaaDoorR22
import Derived.Test.YtbhoeanfnbkenaaDoorR24
namespace Go.Proofs.YtbhoeanfnbkenaaDoor
open Go.RowKit
set_option maxRecDepth 100000
set_option linter.unusedSimpArgs false
structure SortOk (gs : List Gt) (l : List Nat) : Prop where
  lt : ∀ x ∈ l, x < gs.length
  nodup : l.Nodup
  at_ : ∀ (i k : Nat), l[i]? = some k → firstF gs (thOf (l.take i)) = some k
  stop : firstF gs (thOf l) = none
theorem firstF_get {gs : List Gt} {th : Nat → Bool} {k : Nat} (h : firstF gs th = some k) : k < gs.length ∧ th k = false ∧ waitsF gs th k = false := by
  have h1 := List.find?_some h
  unfold freeB at h1
  simp only [Bool.and_eq_true, Bool.not_eq_true'] at h1
  exact ⟨List.mem_range.1 (List.mem_of_find?_eq_some h), h1⟩
theorem sortF_at (gs : List Gt) : ∀ (n : Nat) (th : Nat → Bool) (i k : Nat), (sortF gs n th).1[i]? = some k → firstF gs (fun j => th j || decide (j ∈ (sortF gs n th).1.take i)) = some k
  | 0, th, i, k, h => by simp [sortF] at h
  | n + 1, th, i, k, h => by
    cases hf : firstF gs th with
    | none => simp [sortF, hf] at h
    | some k0 =>
      rw [sortF_step hf] at h ⊢
      cases i with
      | zero =>
        simp only [List.getElem?_cons_zero, Option.some.injEq] at h
        subst h
        simp only [List.take_zero, List.not_mem_nil, decide_false, Bool.or_false]
        exact hf
      | succ i =>
        rw [List.getElem?_cons_succ] at h
        have := sortF_at gs n (updB th k0) i k h
        rw [← this]
        congr 1
        funext j
        simp only [List.take_succ_cons, List.mem_cons, updB, Bool.decide_or]
        cases th j <;> cases decide (j = k0) <;> rfl
theorem sortF_nodup (gs : List Gt) : ∀ (n : Nat) (th : Nat → Bool), (sortF gs n th).1.Nodup ∧ ∀ x ∈ (sortF gs n th).1, th x = false
  | 0, th => ⟨List.nodup_nil, fun x hx => by cases hx⟩
  | n + 1, th => by
    cases hf : firstF gs th with
    | none => rw [sortF_stop hf]; exact ⟨List.nodup_nil, fun x hx => by cases hx⟩
    | some k0 =>
      rw [sortF_step hf]
      obtain ⟨h1, h2⟩ := sortF_nodup gs n (updB th k0)
      have h3 := (firstF_get hf).2.1
      refine ⟨List.nodup_cons.2 ⟨fun hm => ?_, h1⟩, fun x hx => ?_⟩
      · have := h2 k0 hm
        rw [upd_self] at this
        cases this
      · rcases List.mem_cons.1 hx with rfl | hx
        · exact h3
        · have := h2 x hx
          unfold updB at this
          simp only [Bool.or_eq_false_iff] at this
          exact this.2
theorem sortF_end (gs : List Gt) : ∀ (n : Nat) (th : Nat → Bool), (sortF gs n th).1.length = n ∨ firstF gs (sortF gs n th).2 = none
  | 0, th => .inl rfl
  | n + 1, th => by
    cases hf : firstF gs th with
    | none => rw [sortF_stop hf]; exact .inr hf
    | some k0 =>
      rw [sortF_step hf]
      rcases sortF_end gs n (updB th k0) with h | h
      · exact .inl (by rw [List.length_cons, h])
      · exact .inr h
theorem full_of {n : Nat} {l : List Nat} (hn : l.Nodup) (hl : ∀ x ∈ l, x < n) (h : n ≤ l.length) : ∀ j, j < n → j ∈ l := fun j hj => by
  by_cases hm : j ∈ l
  · exact hm
  · have := nat_nodup_len (n := n) (List.nodup_cons.2 ⟨hm, hn⟩) (fun x hx => by
      rcases List.mem_cons.1 hx with rfl | hx
      · exact hj
      · exact hl x hx)
    rw [List.length_cons] at this
    omega
theorem sortG_ok (gs : List Gt) : SortOk gs (sortG gs).1 := by
  have h1 := (sortF_lt gs gs.length none_).2
  have h2 := (sortF_nodup gs gs.length none_).1
  refine ⟨h1, h2, fun i k h => ?_, ?_⟩
  · have := sortF_at gs gs.length none_ i k h
    exact this
  · have he : (sortG gs).2 = thOf (sortG gs).1 := funext fun k => never_mem gs k
    rcases sortF_end gs gs.length none_ with h | h
    · refine List.find?_range_eq_none.2 fun j hj => ?_
      have hm := full_of h2 h1 (Nat.le_of_eq h.symm) j hj
      unfold freeB thOf
      rw [show (decide (j ∈ (sortG gs).1)) = true from decide_eq_true hm]
      rfl
    · rw [← he]
      exact h
theorem SortOk.one {gs : List Gt} {l : List Nat} (h : SortOk gs l) : l = (sortG gs).1 := by
  have h2 := sortG_ok gs
  have key : ∀ i, l.take i = (sortG gs).1.take i := fun i => by
    induction i with
    | zero => rfl
    | succ i ih =>
      rw [List.take_add_one, List.take_add_one, ih]
      congr 2
      cases ha : l[i]? with
      | some k =>
        have h3 := h.at_ i k ha
        cases hb : (sortG gs).1[i]? with
        | some k2 =>
          have h4 := h2.at_ i k2 hb
          rw [ih, h4] at h3
          exact h3.symm
        | none =>
          have := h2.stop
          rw [List.take_of_length_le (l := (sortG gs).1) (List.getElem?_eq_none_iff.1 hb)] at ih
          rw [ih, this] at h3
          cases h3
      | none =>
        cases hb : (sortG gs).1[i]? with
        | none => rfl
        | some k2 =>
          have h4 := h2.at_ i k2 hb
          have := h.stop
          rw [List.take_of_length_le (l := l) (List.getElem?_eq_none_iff.1 ha)] at ih
          rw [ih, h4] at this
          cases this
  have := key (max l.length (sortG gs).1.length)
  rwa [List.take_of_length_le (by omega), List.take_of_length_le (by omega)] at this
theorem waits_no {gs : List Gt} {th : Nat → Bool} {k : Nat} (h : waitsF gs th k = false) {s : ByteArray} (hs : s ∈ (gat gs k).ins) {j : Nat} (hj : j < gs.length) (e : (gat gs j).name = s) : th j = true := by
  unfold waitsF at h
  have := List.any_eq_false.1 h s hs
  cases ht : th j with
  | true => rfl
  | false => exact absurd ((needs_iff gs th s).2 ⟨j, hj, e, ht⟩) this
theorem SortOk.ins {gs : List Gt} {l : List Nat} (h : SortOk gs l) {i k : Nat} (hi : l[i]? = some k) {s : ByteArray} (hs : s ∈ (gat gs k).ins) {j : Nat} (hj : j < gs.length) (e : (gat gs j).name = s) : j ∈ l.take i := by
  have := waits_no (firstF_get (h.at_ i k hi)).2.2 hs hj e
  unfold thOf at this
  exact of_decide_eq_true this
theorem never_len (gs : List Gt) : (sortG gs).1.length + (neverG gs).length = gs.length := by
  rw [← nevP_all]
  unfold nevP
  rw [List.length_map]
  have h1 := sortG_ok gs
  have h2 := filter_len_split (fun _ => true) (thOf (sortG gs).1) (List.range gs.length)
  simp only [Bool.true_and] at h2
  rw [List.filter_eq_self.2 (fun _ _ => rfl), List.length_range] at h2
  have h3 : ((List.range gs.length).filter fun x => thOf (sortG gs).1 x).length = (sortG gs).1.length := by
    refine List.Perm.length_eq ((List.perm_ext_iff_of_nodup (List.nodup_range.filter _) h1.nodup).2 fun x => ?_)
    rw [List.mem_filter, List.mem_range]
    unfold thOf
    rw [decide_eq_true_eq]
    exact ⟨fun h => h.2, fun h => ⟨h1.lt x h, h⟩⟩
  omega
def plC (c : Ci) (s : ByteArray) : Int := ixI (fun x => decide (x = s)) (netsC c)
theorem gat_get {gs : List Gt} {k : Nat} (h : k < gs.length) : gs[k]? = some (gat gs k) := by
  unfold gat
  rw [List.getD_eq_getElem?_getD, List.getElem?_eq_getElem h]
  rfl
theorem ixI_once {l : List ByteArray} (hn : l.Nodup) {k : Nat} {s : ByteArray} (h : l[k]? = some s) : ixI (fun x => decide (x = s)) l = k :=
  ixI_some h (decide_eq_true rfl) fun j y hj hy => decide_eq_false fun e => by
    subst e
    have hjl := (List.getElem?_eq_some_iff.1 hy).1
    have := (List.getElem?_inj hjl hn).1 (hy.trans h.symm)
    omega
theorem gat_ins {c : Ci} {k : Nat} (hk : k < c.gts.length) : gat c.gts k ∈ c.gts := List.mem_of_getElem? (gat_get hk)
end Go.Proofs.YtbhoeanfnbkenaaDoor
namespace Go.Proofs.YtbhoeanfnbkenaaDoor
open Go.RowKit
set_option maxRecDepth 100000
set_option linter.unusedSimpArgs false
structure MayC (c : Ci) : Prop where
  lim : limitB c = false
  nms : ∀ s ∈ toldC c, nameB s = true
  nts : (netsC c).Nodup
  outs : c.outs.Nodup
  las : ∀ x ∈ c.las, initB x = true
  gts : ∀ g ∈ c.gts, gateB g = true
  used : ∀ s ∈ usedC c, s ∈ netsC c
theorem twiceF_of : ∀ (l pre : List ByteArray), l.Nodup → (∀ x ∈ l, x ∉ pre) → twiceF pre l = none
  | [], _, _, _ => rfl
  | y :: l, pre, hn, hd => by
    rw [List.nodup_cons] at hn
    unfold twiceF
    rw [if_neg (hd y List.mem_cons_self)]
    refine twiceF_of l _ hn.2 fun x hx hm => ?_
    rcases List.mem_append.1 hm with h | h
    · exact hd x (List.mem_cons_of_mem _ hx) h
    · rw [List.mem_singleton] at h
      exact hn.1 (h ▸ hx)
theorem twiceW_iff (l : List ByteArray) : twiceW l = none ↔ l.Nodup :=
  ⟨fun h => (twiceF_nodup _ [] (Option.map_eq_none_iff.1 h)).1, fun h => by unfold twiceW; rw [twiceF_of l [] h (fun _ _ hx => by cases hx)]; rfl⟩
theorem checkW_iff (c : Ci) : checkW c = none ↔ MayC c := by
  have h1 : limitW c = none ↔ limitB c = false := by
    unfold limitW
    cases limitB c <;> simp
  have h2 : namesW (toldC c) = none ↔ ∀ s ∈ toldC c, nameB s = true := by
    unfold namesW
    rw [Option.map_eq_none_iff, List.find?_eq_none]
    simp
  have h5 : partsW c = none ↔ (∀ x ∈ c.las, initB x = true) ∧ ∀ g ∈ c.gts, gateB g = true := by
    unfold partsW
    rw [Option.or_eq_none_iff, Option.map_eq_none_iff, Option.map_eq_none_iff, List.find?_eq_none, List.find?_eq_none]
    simp
  have h6 : thereW c = none ↔ ∀ s ∈ usedC c, s ∈ netsC c := by
    unfold thereW
    rw [Option.map_eq_none_iff, List.find?_eq_none]
    simp
  unfold checkW
  rw [Option.or_eq_none_iff, Option.or_eq_none_iff, Option.or_eq_none_iff, Option.or_eq_none_iff, Option.or_eq_none_iff, h1, h2, twiceW_iff, twiceW_iff, h5, h6]
  exact ⟨fun ⟨a, b, d, e, ⟨f, g⟩, h⟩ => ⟨a, b, d, e, f, g, h⟩, fun ⟨a, b, d, e, f, g, h⟩ => ⟨a, b, d, e, ⟨f, g⟩, h⟩⟩
theorem checkW_ne {c : Ci} {w : Int × ByteArray} (h : checkW c = some w) : w.1 ≠ 0 := by
  unfold checkW at h
  simp only [Option.or_eq_some_iff] at h
  rcases h with h | ⟨_, h | ⟨_, h | ⟨_, h | ⟨_, h | ⟨_, h⟩⟩⟩⟩⟩
  · unfold limitW at h
    split at h
    · cases h; decide
    · cases h
  · obtain ⟨s, _, rfl⟩ := Option.map_eq_some_iff.1 h; simp
  · obtain ⟨s, _, rfl⟩ := Option.map_eq_some_iff.1 h; simp
  · obtain ⟨s, _, rfl⟩ := Option.map_eq_some_iff.1 h; simp
  · unfold partsW at h
    rcases Option.or_eq_some_iff.1 h with h | ⟨_, h⟩
    · obtain ⟨s, _, rfl⟩ := Option.map_eq_some_iff.1 h; simp
    · obtain ⟨s, _, rfl⟩ := Option.map_eq_some_iff.1 h; simp
  · obtain ⟨s, _, rfl⟩ := Option.map_eq_some_iff.1 h; simp
theorem chk_iff (c : Ci) : (checkC c).1 = 0 ↔ MayC c := by
  rw [← checkW_iff]
  unfold checkC
  cases h : checkW c with
  | none => exact ⟨fun _ => rfl, fun _ => rfl⟩
  | some w => exact ⟨fun e => absurd e (checkW_ne h), fun e => by cases e⟩
theorem MayC.may {c : Ci} (h : MayC c) : May c := ⟨h.nts⟩
theorem checkO_iff (c : Ci) : (checkO c).1 = 0 ↔ MayC c ∧ neverG c.gts = [] := by
  unfold checkO
  by_cases h0 : (checkC c).1 = 0
  · rw [if_pos h0]
    have := (chk_iff c).1 h0
    cases h : neverG c.gts with
    | nil => simp [this]
    | cons x l => simp
  · rw [if_neg h0]
    exact ⟨fun h => absurd h h0, fun h => absurd ((chk_iff c).2 h.1) h0⟩
end Go.Proofs.YtbhoeanfnbkenaaDoor
namespace Go.Proofs.YtbhoeanfnbkenaaDoor
open Go.RowKit
set_option maxRecDepth 100000
set_option linter.unusedSimpArgs false
theorem Rch.mono {L : ByteArray → Option (List ByteArray)} {a b : List ByteArray} (h : ∀ s ∈ a, s ∈ b) {s : ByteArray} (hr : Rch L a s) : Rch L b s := by
  induction hr with
  | base h1 h2 => exact .base (h _ h1) h2
  | step _ h1 h2 h3 ih => exact .step ih h1 h2 h3
end Go.Proofs.YtbhoeanfnbkenaaDoor
