import Derived.Test.YtbhoeanfnbkenaaDoorR12
import Derived.Test.YtbhoeanfnbkenaaDoorR2
namespace Go.Proofs.YtbhoeanfnbkenaaDoor
open Go.RowKit
set_option maxRecDepth 100000
set_option linter.unusedSimpArgs false
structure May (c : Ci) : Prop where
  once : (netsC c).Nodup
theorem foldl_take {α β : Type} (f : β → α → β) (b : β) {l : List α} {k : Nat} {x : α} (h : l[k]? = some x) : (l.take (k + 1)).foldl f b = f ((l.take k).foldl f b) x := by
  rw [List.take_add_one, h, List.foldl_append]
  rfl
def updL (L : ByteArray → Option (List ByteArray)) (s : ByteArray) (x : List ByteArray) : ByteArray → Option (List ByteArray) := fun t => if stEq t s = true then some x else L t
theorem updL_self (L : ByteArray → Option (List ByteArray)) (s : ByteArray) (x : List ByteArray) : updL L s x s = some x := by
  unfold updL
  rw [if_pos ((stEq_iff _ _).2 rfl)]
theorem updL_ne {L : ByteArray → Option (List ByteArray)} {s t : ByteArray} {x : List ByteArray} (h : t ≠ s) : updL L s x t = L t := by
  unfold updL
  rw [if_neg (fun e => h ((stEq_iff _ _).1 e))]
def ldI (c : Ci) (k : Nat) : ByteArray → Option (List ByteArray) := (c.ins.take k).foldl (fun L s => updL L s []) (fun _ => none)
def ldL (c : Ci) (k : Nat) : ByteArray → Option (List ByteArray) := (c.las.take k).foldl (fun L x => updL L x.name [x.next]) (ldI c c.ins.length)
def ldG (c : Ci) (k : Nat) : ByteArray → Option (List ByteArray) := (c.gts.take k).foldl (fun L g => updL L g.name g.ins) (ldL c c.las.length)
def leadsL (c : Ci) : ByteArray → Option (List ByteArray) := ldG c c.gts.length
theorem ldI_succ {c : Ci} {k : Nat} {s : ByteArray} (h : c.ins[k]? = some s) : ldI c (k + 1) = updL (ldI c k) s [] := foldl_take _ _ h
theorem ldL_succ {c : Ci} {k : Nat} {x : La} (h : c.las[k]? = some x) : ldL c (k + 1) = updL (ldL c k) x.name [x.next] := foldl_take _ _ h
theorem ldG_succ {c : Ci} {k : Nat} {g : Gt} (h : c.gts[k]? = some g) : ldG c (k + 1) = updL (ldG c k) g.name g.ins := foldl_take _ _ h
theorem fold_upd {α : Type} (nm : α → ByteArray) (vl : α → List ByteArray) : ∀ (l : List α) (L : ByteArray → Option (List ByteArray)) (s : ByteArray) (z : List ByteArray), l.foldl (fun L x => updL L (nm x) (vl x)) L s = some z → (∃ x ∈ l, nm x = s ∧ vl x = z) ∨ (L s = some z ∧ ∀ x ∈ l, nm x ≠ s)
  | [], L, s, z, h => .inr ⟨h, fun x hx => by cases hx⟩
  | y :: l, L, s, z, h => by
    rcases fold_upd nm vl l _ s z h with ⟨x, hx, e1, e2⟩ | ⟨h1, h2⟩
    · exact .inl ⟨x, List.mem_cons_of_mem _ hx, e1, e2⟩
    · have h1 : updL L (nm y) (vl y) s = some z := h1
      by_cases e : s = nm y
      · subst e
        rw [updL_self] at h1
        exact .inl ⟨y, List.mem_cons_self, rfl, Option.some.inj h1⟩
      · rw [updL_ne e] at h1
        refine .inr ⟨h1, fun x hx => ?_⟩
        rcases List.mem_cons.1 hx with rfl | hx
        · exact fun e2 => e e2.symm
        · exact h2 x hx
theorem fold_none {α : Type} (nm : α → ByteArray) (vl : α → List ByteArray) : ∀ (l : List α) (L : ByteArray → Option (List ByteArray)) (s : ByteArray), (∀ x ∈ l, nm x ≠ s) → l.foldl (fun L x => updL L (nm x) (vl x)) L s = L s
  | [], _, _, _ => rfl
  | y :: l, L, s, h => by
    rw [List.foldl_cons, fold_none nm vl l _ s (fun x hx => h x (List.mem_cons_of_mem _ hx)), updL_ne (fun e => h y List.mem_cons_self e.symm)]
theorem fold_here {α : Type} (nm : α → ByteArray) (vl : α → List ByteArray) : ∀ (l : List α) (L : ByteArray → Option (List ByteArray)) (x : α), x ∈ l → (∃ z, l.foldl (fun L x => updL L (nm x) (vl x)) L (nm x) = some z)
  | [], _, _, h => by cases h
  | y :: l, L, x, h => by
    rw [List.foldl_cons]
    by_cases e : ∃ x' ∈ l, nm x' = nm x
    · obtain ⟨x', hx', e⟩ := e
      rw [← e]
      exact fold_here nm vl l _ x' hx'
    · rw [fold_none nm vl l _ _ (fun x' hx' e2 => e ⟨x', hx', e2⟩)]
      rcases List.mem_cons.1 h with rfl | h
      · exact ⟨_, updL_self _ _ _⟩
      · exact absurd ⟨x, h, rfl⟩ e
theorem leadsL_inv {c : Ci} {s : ByteArray} {l : List ByteArray} (h : leadsL c s = some l) : (∃ g ∈ c.gts, g.name = s ∧ g.ins = l) ∨ (∃ x ∈ c.las, x.name = s ∧ [x.next] = l) ∨ (s ∈ c.ins ∧ l = []) := by
  unfold leadsL ldG at h
  rw [List.take_length] at h
  rcases fold_upd Gt.name Gt.ins _ _ _ _ h with h | ⟨h, _⟩
  · exact .inl h
  · unfold ldL at h
    rw [List.take_length] at h
    rcases fold_upd La.name (fun x => [x.next]) _ _ _ _ h with h | ⟨h, _⟩
    · exact .inr (.inl h)
    · unfold ldI at h
      rw [List.take_length] at h
      rcases fold_upd id (fun _ => []) _ _ _ _ h with ⟨x, hx, e1, e2⟩ | ⟨h, _⟩
      · have e1 : x = s := e1
        exact .inr (.inr ⟨e1 ▸ hx, e2.symm⟩)
      · cases h
theorem leadsL_dom {c : Ci} {s : ByteArray} (h : leadsL c s ≠ none) : s ∈ netsC c := by
  obtain ⟨l, hl⟩ := Option.ne_none_iff_exists'.1 h
  unfold netsC
  simp only [List.mem_append, List.mem_map]
  rcases leadsL_inv hl with ⟨g, hg, e, _⟩ | ⟨x, hx, e, _⟩ | ⟨h, _⟩
  · exact .inr (.inr ⟨g, hg, e⟩)
  · exact .inr (.inl ⟨x, hx, e⟩)
  · exact .inl h
theorem leadsL_some {c : Ci} {s : ByteArray} (h : s ∈ netsC c) : leadsL c s ≠ none := by
  intro hn
  unfold leadsL ldG at hn
  rw [List.take_length] at hn
  by_cases h1 : ∃ g ∈ c.gts, g.name = s
  · obtain ⟨g, hg, rfl⟩ := h1
    obtain ⟨z, hz⟩ := fold_here Gt.name Gt.ins c.gts (ldL c c.las.length) g hg
    rw [hz] at hn
    cases hn
  · rw [fold_none Gt.name Gt.ins _ _ _ (fun g hg e => h1 ⟨g, hg, e⟩)] at hn
    unfold ldL at hn
    rw [List.take_length] at hn
    by_cases h2 : ∃ x ∈ c.las, x.name = s
    · obtain ⟨x, hx, rfl⟩ := h2
      obtain ⟨z, hz⟩ := fold_here La.name (fun x => [x.next]) c.las (ldI c c.ins.length) x hx
      rw [hz] at hn
      cases hn
    · rw [fold_none La.name (fun x => [x.next]) _ _ _ (fun x hx e => h2 ⟨x, hx, e⟩)] at hn
      unfold ldI at hn
      rw [List.take_length] at hn
      unfold netsC at h
      simp only [List.mem_append, List.mem_map] at h
      rcases h with h | h | h
      · obtain ⟨z, hz⟩ := fold_here id (fun _ => []) c.ins (fun _ => none) s h
        rw [show id s = s from rfl] at hz
        have e : (c.ins.foldl (fun L s => updL L s []) (fun _ => none)) s = some z := hz
        rw [e] at hn
        cases hn
      · exact h2 h
      · exact h1 h
inductive Rch (L : ByteArray → Option (List ByteArray)) (nets : List ByteArray) : ByteArray → Prop where
  | base {s : ByteArray} : s ∈ nets → L s ≠ none → Rch L nets s
  | step {s x : ByteArray} {l : List ByteArray} : Rch L nets s → L s = some l → x ∈ l → L x ≠ none → Rch L nets x
theorem Rch.there {L : ByteArray → Option (List ByteArray)} {nets : List ByteArray} {s : ByteArray} (h : Rch L nets s) : L s ≠ none := by
  cases h with
  | base _ h => exact h
  | step _ _ _ h => exact h
def markM (M : ByteArray → Bool) (s : ByteArray) : ByteArray → Bool := fun t => stEq t s || M t
theorem markM_iff (M : ByteArray → Bool) (s t : ByteArray) : markM M s t = true ↔ t = s ∨ M t = true := by
  unfold markM
  rw [Bool.or_eq_true, stEq_iff]
def un (l : List ByteArray) (M : ByteArray → Bool) : Nat := (l.filter fun s => !M s).length
theorem un_le (l : List ByteArray) (M : ByteArray → Bool) (s : ByteArray) : un l (markM M s) ≤ un l M := by
  unfold un
  induction l with
  | nil => exact Nat.le_refl _
  | cons x l ih =>
    rw [List.filter_cons, List.filter_cons]
    cases h1 : M x
    · cases h2 : stEq x s
      · simp only [markM, h1, h2, Bool.or_false, Bool.not_false, if_true, List.length_cons]
        exact Nat.succ_le_succ ih
      · simp only [markM, h1, h2, Bool.or_false, Bool.not_false, Bool.not_true, if_true, List.length_cons]
        exact Nat.le_succ_of_le ih
    · simp only [markM, h1, Bool.or_true, Bool.not_true]
      exact ih
theorem un_mark {M : ByteArray → Bool} {s : ByteArray} (hM : M s = false) : ∀ l : List ByteArray, s ∈ l → un l (markM M s) + 1 ≤ un l M
  | [], h => by cases h
  | x :: l, h => by
    by_cases e : x = s
    · subst e
      have h2 : markM M x x = true := (markM_iff _ _ _).2 (.inl rfl)
      have := un_le l M x
      unfold un at this ⊢
      rw [List.filter_cons, List.filter_cons, h2, hM]
      simp only [Bool.not_true, Bool.not_false, if_true, List.length_cons]
      exact Nat.succ_le_succ this
    · have h : s ∈ l := by
        rcases List.mem_cons.1 h with e2 | h
        · exact absurd e2.symm e
        · exact h
      have ih := un_mark hM l h
      have h2 : markM M s x = M x := by
        unfold markM
        rw [show stEq x s = false by rw [← Bool.not_eq_true, stEq_iff]; exact e, Bool.false_or]
      unfold un at ih ⊢
      rw [List.filter_cons, List.filter_cons, h2]
      cases M x
      · simp only [Bool.not_false, if_true, List.length_cons]
        omega
      · simp only [Bool.not_true]
        exact ih
structure MkI (L : ByteArray → Option (List ByteArray)) (nets t : List ByteArray) (M : ByteArray → Bool) : Prop where
  sound : ∀ s, M s = true → Rch L nets s
  todo : ∀ s ∈ t, L s ≠ none → Rch L nets s
  base : ∀ s ∈ nets, L s ≠ none → s ∈ t ∨ M s = true
  closed : ∀ s, M s = true → ∀ l, L s = some l → ∀ x ∈ l, L x ≠ none → x ∈ t ∨ M x = true
theorem MkI.start (L : ByteArray → Option (List ByteArray)) (nets : List ByteArray) : MkI L nets nets (fun _ => false) :=
  ⟨fun _ h => (by cases h), fun _ h h2 => Rch.base h h2, fun _ h _ => Or.inl h, fun _ h => (by cases h)⟩
theorem MkI.skip {L : ByteArray → Option (List ByteArray)} {nets t : List ByteArray} {M : ByteArray → Bool} {s : ByteArray} (h : MkI L nets (t ++ [s]) M) (hs : L s = none ∨ M s = true) : MkI L nets t M := by
  have key : ∀ x, L x ≠ none → (x ∈ t ++ [s] ∨ M x = true) → x ∈ t ∨ M x = true := fun x hx hh => by
    rcases hh with hh | hh
    · rcases List.mem_append.1 hh with hh | hh
      · exact .inl hh
      · rw [List.mem_singleton] at hh
        subst hh
        rcases hs with hs | hs
        · exact absurd hs hx
        · exact .inr hs
    · exact .inr hh
  exact ⟨h.sound, fun x hx => h.todo x (List.mem_append_left _ hx), fun x hx h2 => key x h2 (h.base x hx h2), fun x hx l hl y hy h2 => key y h2 (h.closed x hx l hl y hy h2)⟩
theorem MkI.mark {L : ByteArray → Option (List ByteArray)} {nets t l : List ByteArray} {M : ByteArray → Bool} {s : ByteArray} (h : MkI L nets (t ++ [s]) M) (hs : L s = some l) : MkI L nets (t ++ l) (markM M s) := by
  have hr : Rch L nets s := h.todo s (List.mem_append_right _ (List.mem_singleton.2 rfl)) (by rw [hs]; exact fun e => by cases e)
  have key : ∀ x, (x ∈ t ++ [s] ∨ M x = true) → x ∈ t ++ l ∨ markM M s x = true := fun x hh => by
    rcases hh with hh | hh
    · rcases List.mem_append.1 hh with hh | hh
      · exact .inl (List.mem_append_left _ hh)
      · exact .inr ((markM_iff _ _ _).2 (.inl (List.mem_singleton.1 hh)))
    · exact .inr ((markM_iff _ _ _).2 (.inr hh))
  refine ⟨fun x hx => ?_, fun x hx h2 => ?_, fun x hx h2 => key x (h.base x hx h2), fun x hx l' hl' y hy h2 => ?_⟩
  · rcases (markM_iff _ _ _).1 hx with rfl | hx
    · exact hr
    · exact h.sound x hx
  · rcases List.mem_append.1 hx with hx | hx
    · exact h.todo x (List.mem_append_left _ hx) h2
    · exact .step hr hs hx h2
  · rcases (markM_iff _ _ _).1 hx with rfl | hx
    · rw [hs] at hl'
      cases hl'
      exact .inl (List.mem_append_right _ hy)
    · exact key y (h.closed x hx l' hl' y hy h2)
theorem MkI.done {L : ByteArray → Option (List ByteArray)} {nets : List ByteArray} {M : ByteArray → Bool} (h : MkI L nets [] M) (s : ByteArray) : M s = true ↔ Rch L nets s := by
  refine ⟨h.sound s, fun hr => ?_⟩
  induction hr with
  | base h1 h2 => exact (h.base _ h1 h2).resolve_left (fun e => by cases e)
  | step _ h2 h3 h4 ih => exact (h.closed _ ih _ h2 _ h3 h4).resolve_left (fun e => by cases e)
def ConeIs (c : Ci) (nets l : List ByteArray) : Prop := ∃ p : ByteArray → Bool, (∀ s, p s = true ↔ Rch (leadsL c) nets s) ∧ l = (netsC c).filter p
theorem coneIs_one {c : Ci} {nets l m : List ByteArray} (h : ConeIs c nets l) (k : ConeIs c nets m) : l = m := by
  obtain ⟨p, hp, rfl⟩ := h
  obtain ⟨q, hq, rfl⟩ := k
  refine List.filter_congr fun s _ => ?_
  rw [Bool.eq_iff_iff, hp, hq]
theorem coneIs_ex (c : Ci) (nets : List ByteArray) : ∃ l, ConeIs c nets l := by
  have key : ∀ s, ∃ b : Bool, b = true ↔ Rch (leadsL c) nets s := fun s => by
    by_cases h : Rch (leadsL c) nets s
    · exact ⟨true, fun _ => h, fun _ => rfl⟩
    · exact ⟨false, fun e => (by cases e), fun h2 => absurd h2 h⟩
  exact ⟨_, fun s => Classical.choose (key s), fun s => Classical.choose_spec (key s), rfl⟩
def refLeads (c : Ci) (s : ByteArray) : List ByteArray := match c.las.find? fun x => stEq x.name s with
  | some x => [x.next]
  | none => match c.gts.find? fun g => stEq g.name s with
    | some g => g.ins
    | none => []
theorem find_once {α : Type} (nm : α → ByteArray) : ∀ {l : List α} {x : α}, (l.map nm).Nodup → x ∈ l → l.find? (fun y => stEq (nm y) (nm x)) = some x
  | [], _, _, h => by cases h
  | y :: l, x, hn, h => by
    rw [List.map_cons, List.nodup_cons] at hn
    rw [List.find?_cons]
    rcases List.mem_cons.1 h with rfl | h
    · rw [(stEq_iff _ _).2 rfl]
    · have hne : ¬ nm y = nm x := fun e => hn.1 (e ▸ List.mem_map.2 ⟨x, h, rfl⟩)
      rw [show stEq (nm y) (nm x) = false by rw [← Bool.not_eq_true, stEq_iff]; exact hne]
      exact find_once nm hn.2 h
theorem nodup_once {c : Ci} (hm : May c) : (netsC c).Nodup := hm.once
theorem leads_eq {c : Ci} (hm : May c) {s : ByteArray} (hs : s ∈ netsC c) : leadsL c s = some (refLeads c s) := by
  obtain ⟨l, hl⟩ := Option.ne_none_iff_exists'.1 (leadsL_some hs)
  rw [hl]
  have hn := nodup_once hm
  unfold netsC at hn
  rw [List.nodup_append] at hn
  obtain ⟨_, hn, hd1⟩ := hn
  rw [List.nodup_append] at hn
  obtain ⟨hl1, hg1, hd2⟩ := hn
  have notla : ∀ t, (∀ x ∈ c.las, x.name ≠ t) → c.las.find? (fun x => stEq x.name t) = none := fun t h => by
    rw [List.find?_eq_none]
    intro x hx e
    exact h x hx ((stEq_iff _ _).1 e)
  have notgt : ∀ t, (∀ x ∈ c.gts, x.name ≠ t) → c.gts.find? (fun x => stEq x.name t) = none := fun t h => by
    rw [List.find?_eq_none]
    intro x hx e
    exact h x hx ((stEq_iff _ _).1 e)
  unfold refLeads
  rcases leadsL_inv hl with ⟨g, hg, rfl, rfl⟩ | ⟨x, hx, rfl, rfl⟩ | ⟨h, rfl⟩
  · rw [notla _ (fun x hx e => hd2 _ (List.mem_map.2 ⟨x, hx, rfl⟩) _ (List.mem_map.2 ⟨g, hg, rfl⟩) e)]
    have : c.gts.find? (fun x => stEq x.name g.name) = some g := find_once Gt.name hg1 hg
    rw [this]
  · have : c.las.find? (fun y => stEq y.name x.name) = some x := find_once La.name hl1 hx
    rw [this]
  · rw [notla _ (fun x hx e => hd1 _ h _ (List.mem_append_left _ (List.mem_map.2 ⟨x, hx, rfl⟩)) e.symm), notgt _ (fun x hx e => hd1 _ h _ (List.mem_append_right _ (List.mem_map.2 ⟨x, hx, rfl⟩)) e.symm)]
def cK (lk : Nat → Nat → Bool) (i : Nat) (th : Nat → Bool) (k : Nat) : Nat → Bool := if (th k && lk k i) = true then updB th i else th
def cB (bs : Nat → Bool) (th : Nat → Bool) (i : Nat) : Nat → Bool := if bs i = true then updB th i else th
def cI (n : Nat) (lk : Nat → Nat → Bool) (bs : Nat → Bool) (th : Nat → Bool) (i : Nat) : Nat → Bool := (List.range n).foldl (cK lk i) (cB bs th i)
def cR (n : Nat) (lk : Nat → Nat → Bool) (bs : Nat → Bool) (th : Nat → Bool) : Nat → Bool := (List.range n).foldl (cI n lk bs) th
def cN (n : Nat) (lk : Nat → Nat → Bool) (bs : Nat → Bool) (m : Nat) : Nat → Bool := (List.range m).foldl (fun th _ => cR n lk bs th) none_
theorem range_fold {β : Type} (f : β → Nat → β) (b : β) (k : Nat) : (List.range (k + 1)).foldl f b = f ((List.range k).foldl f b) k := by
  rw [List.range_succ, List.foldl_append]
  rfl
def LeB (a b : Nat → Bool) : Prop := ∀ j, a j = true → b j = true
theorem LeB.updB (th : Nat → Bool) (i : Nat) : LeB th (updB th i) := fun j h => by
  unfold Go.Proofs.YtbhoeanfnbkenaaDoor.updB
  rw [h, Bool.or_true]
theorem LeB.trans {a b c : Nat → Bool} (h : LeB a b) (k : LeB b c) : LeB a c := fun j hj => k j (h j hj)
theorem upd_self (th : Nat → Bool) (i : Nat) : updB th i i = true := by
  unfold updB
  simp
theorem fold_le {f : (Nat → Bool) → Nat → Nat → Bool} (hf : ∀ th k, LeB th (f th k)) : ∀ (l : List Nat) (th : Nat → Bool), LeB th (l.foldl f th)
  | [], _ => fun _ h => h
  | k :: l, th => (hf th k).trans (fold_le hf l _)
theorem fold_at {f : (Nat → Bool) → Nat → Nat → Bool} (hf : ∀ th k, LeB th (f th k)) {k : Nat} : ∀ (l : List Nat) (th : Nat → Bool), k ∈ l → ∃ th', LeB th th' ∧ LeB (f th' k) (l.foldl f th)
  | [], _, h => by cases h
  | j :: l, th, h => by
    rcases List.mem_cons.1 h with rfl | h
    · exact ⟨th, fun _ h => h, fold_le hf l _⟩
    · obtain ⟨th', h1, h2⟩ := fold_at hf l (f th j) h
      exact ⟨th', (hf th j).trans h1, h2⟩
theorem cK_le (lk : Nat → Nat → Bool) (i : Nat) (th : Nat → Bool) (k : Nat) : LeB th (cK lk i th k) := by
  unfold cK
  split
  · exact LeB.updB th i
  · exact fun _ h => h
theorem cB_le (bs : Nat → Bool) (th : Nat → Bool) (i : Nat) : LeB th (cB bs th i) := by
  unfold cB
  split
  · exact LeB.updB th i
  · exact fun _ h => h
theorem cI_le (n : Nat) (lk : Nat → Nat → Bool) (bs : Nat → Bool) (th : Nat → Bool) (i : Nat) : LeB th (cI n lk bs th i) :=
  (cB_le bs th i).trans (fold_le (cK_le lk i) _ _)
theorem cR_le (n : Nat) (lk : Nat → Nat → Bool) (bs : Nat → Bool) (th : Nat → Bool) : LeB th (cR n lk bs th) := fold_le (cI_le n lk bs) _ _
theorem cR_base {n : Nat} {lk : Nat → Nat → Bool} {bs : Nat → Bool} (th : Nat → Bool) {i : Nat} (hi : i < n) (hb : bs i = true) : cR n lk bs th i = true := by
  obtain ⟨th', _, h2⟩ := fold_at (cI_le n lk bs) (k := i) (List.range n) th (List.mem_range.2 hi)
  refine h2 i (fold_le (cK_le lk i) _ _ i ?_)
  unfold cB
  rw [if_pos hb]
  exact upd_self _ _
theorem cR_step {n : Nat} {lk : Nat → Nat → Bool} {bs : Nat → Bool} (th : Nat → Bool) {i k : Nat} (hi : i < n) (hk : k < n) (ht : th k = true) (hl : lk k i = true) : cR n lk bs th i = true := by
  obtain ⟨th', h1, h2⟩ := fold_at (cI_le n lk bs) (k := i) (List.range n) th (List.mem_range.2 hi)
  refine h2 i ?_
  obtain ⟨th2, h3, h4⟩ := fold_at (cK_le lk i) (k := k) (List.range n) (cB bs th' i) (List.mem_range.2 hk)
  refine h4 i ?_
  unfold cK
  rw [h3 k (cB_le bs th' i k (h1 k ht)), hl]
  exact upd_self _ _
def ClosedB (n : Nat) (lk : Nat → Nat → Bool) (bs : Nat → Bool) (th : Nat → Bool) : Prop := (∀ i, i < n → bs i = true → th i = true) ∧ ∀ i k, i < n → k < n → th k = true → lk k i = true → th i = true
theorem sound_fold {P : Nat → Prop} {f : (Nat → Bool) → Nat → Nat → Bool} : ∀ (l : List Nat) (th : Nat → Bool), (∀ th, ∀ k ∈ l, (∀ j, th j = true → P j) → ∀ j, f th k j = true → P j) → (∀ j, th j = true → P j) → ∀ j, l.foldl f th j = true → P j
  | [], _, _, h => h
  | k :: l, th, hf, h => sound_fold l _ (fun th j hj => hf th j (List.mem_cons_of_mem _ hj)) (hf th k List.mem_cons_self h)
theorem upd_sound {P : Nat → Prop} {th : Nat → Bool} {i : Nat} (h : ∀ j, th j = true → P j) (hi : P i) : ∀ j, updB th i j = true → P j := fun j hj => by
  unfold updB at hj
  rw [Bool.or_eq_true, decide_eq_true_eq] at hj
  rcases hj with rfl | hj
  · exact hi
  · exact h j hj
theorem cR_sound {n : Nat} {lk : Nat → Nat → Bool} {bs : Nat → Bool} {P : Nat → Prop} (hb : ∀ i, i < n → bs i = true → P i) (hl : ∀ i k, i < n → k < n → P k → lk k i = true → P i) {th : Nat → Bool} (h : ∀ j, th j = true → P j) : ∀ j, cR n lk bs th j = true → P j := by
  refine sound_fold _ _ (fun th i hi h => ?_) h
  have hi := List.mem_range.1 hi
  refine sound_fold _ _ (fun th k hk h => ?_) ?_
  · have hk := List.mem_range.1 hk
    unfold cK
    split
    · rename_i e
      rw [Bool.and_eq_true] at e
      exact upd_sound h (hl i k hi hk (h k e.1) e.2)
    · exact h
  · unfold cB
    split
    · rename_i e
      exact upd_sound h (hb i hi e)
    · exact h
def cntB (n : Nat) (th : Nat → Bool) : Nat := ((List.range n).filter th).length
theorem cntB_le (n : Nat) (th : Nat → Bool) : cntB n th ≤ n := by
  unfold cntB
  have := List.length_filter_le th (List.range n)
  rwa [List.length_range] at this
theorem filter_mono {α : Type} {p q : α → Bool} : ∀ l : List α, (∀ x ∈ l, p x = true → q x = true) → (l.filter p).length ≤ (l.filter q).length
  | [], _ => Nat.le_refl _
  | x :: l, h => by
    have ih := filter_mono l (fun y hy => h y (List.mem_cons_of_mem _ hy))
    rw [List.filter_cons, List.filter_cons]
    cases hp : p x
    · simp only [Bool.false_eq_true, if_false]
      split
      · rw [List.length_cons]; omega
      · exact ih
    · rw [h x List.mem_cons_self hp]
      simp only [if_true, List.length_cons]
      omega
theorem filter_more {α : Type} {p q : α → Bool} {z : α} (hq : q z = true) (hp : p z = false) : ∀ l : List α, (∀ x ∈ l, p x = true → q x = true) → z ∈ l → (l.filter p).length + 1 ≤ (l.filter q).length
  | [], _, h => by cases h
  | x :: l, h, hz => by
    have hm := filter_mono l (fun y hy => h y (List.mem_cons_of_mem _ hy))
    rw [List.filter_cons, List.filter_cons]
    rcases List.mem_cons.1 hz with rfl | hz
    · rw [hp, hq]
      simp only [Bool.false_eq_true, if_false, if_true, List.length_cons]
      omega
    · have ih := filter_more hq hp l (fun y hy => h y (List.mem_cons_of_mem _ hy)) hz
      cases hp : p x
      · simp only [Bool.false_eq_true, if_false]
        split
        · rw [List.length_cons]; omega
        · exact ih
      · rw [h x List.mem_cons_self hp]
        simp only [if_true, List.length_cons]
        omega
theorem cN_prog (n : Nat) (lk : Nat → Nat → Bool) (bs : Nat → Bool) : ∀ m, ClosedB n lk bs (cN n lk bs m) ∨ m ≤ cntB n (cN n lk bs m)
  | 0 => .inr (Nat.zero_le _)
  | m + 1 => by
    have e : cN n lk bs (m + 1) = cR n lk bs (cN n lk bs m) := range_fold _ _ _
    rw [e]
    rcases cN_prog n lk bs m with hc | hm
    · left
      have same : ∀ j, j < n → cR n lk bs (cN n lk bs m) j = true → cN n lk bs m j = true := fun j hj h => by
        have := cR_sound (P := fun j => j < n → cN n lk bs m j = true) (n := n) (lk := lk) (bs := bs) (fun i hi hb _ => hc.1 i hi hb) (fun i k hi hk hp hl _ => hc.2 i k hi hk (hp hk) hl) (th := cN n lk bs m) (fun j h _ => h) j h
        exact this hj
      exact ⟨fun i hi hb => cR_base _ hi hb, fun i k hi hk ht hl => cR_le n lk bs _ i (hc.2 i k hi hk (same k hk ht) hl)⟩
    · by_cases h : ∃ j, j < n ∧ cR n lk bs (cN n lk bs m) j = true ∧ cN n lk bs m j = false
      · right
        obtain ⟨j, hj, h1, h2⟩ := h
        have := filter_more h1 h2 (List.range n) (fun x _ => cR_le n lk bs _ x) (List.mem_range.2 hj)
        unfold cntB at hm ⊢
        omega
      · left
        have same : ∀ j, j < n → cR n lk bs (cN n lk bs m) j = true → cN n lk bs m j = true := fun j hj h1 => by
          cases h2 : cN n lk bs m j
          · exact absurd ⟨j, hj, h1, h2⟩ h
          · rfl
        exact ⟨fun i hi hb => cR_base _ hi hb, fun i k hi hk ht hl => cR_step _ hi hk (same k hk ht) hl⟩
theorem cN_closed (n : Nat) (lk : Nat → Nat → Bool) (bs : Nat → Bool) : ClosedB n lk bs (cN n lk bs (n + 1)) := by
  rcases cN_prog n lk bs (n + 1) with h | h
  · exact h
  · have := cntB_le n (cN n lk bs (n + 1))
    omega
def nat_ (c : Ci) (k : Nat) : ByteArray := (netsC c).getD k noneT
def lkC (c : Ci) (k i : Nat) : Bool := usedB (refLeads c (nat_ c k)) (nat_ c i)
def bsC (c : Ci) (nets : List ByteArray) (i : Nat) : Bool := usedB nets (nat_ c i)
theorem nat_at {c : Ci} {k : Nat} {s : ByteArray} (h : (netsC c)[k]? = some s) : nat_ c k = s := by
  unfold nat_
  rw [List.getD_eq_getElem?_getD, h]
  rfl
theorem nat_mem {c : Ci} {k : Nat} (h : k < (netsC c).length) : nat_ c k ∈ netsC c := by
  have := List.getElem?_eq_getElem h
  rw [nat_at this]
  exact List.getElem_mem h
theorem cN_sound {c : Ci} (hm : May c) (nets : List ByteArray) (m : Nat) : ∀ j, cN (netsC c).length (lkC c) (bsC c nets) m j = true → j < (netsC c).length ∧ Rch (leadsL c) nets (nat_ c j) := by
  induction m with
  | zero => intro j h; cases h
  | succ m ih =>
    rw [show cN (netsC c).length (lkC c) (bsC c nets) (m + 1) = cR (netsC c).length (lkC c) (bsC c nets) (cN (netsC c).length (lkC c) (bsC c nets) m) from range_fold _ _ _]
    refine cR_sound (fun i hi hb => ⟨hi, .base ((usedB_iff _ _).1 hb) (leadsL_some (nat_mem hi))⟩) (fun i k hi hk hp hl => ⟨hi, .step hp.2 (leads_eq hm (nat_mem hk)) ((usedB_iff _ _).1 hl) (leadsL_some (nat_mem hi))⟩) ih
theorem cN_all {c : Ci} (hm : May c) (nets : List ByteArray) {s : ByteArray} (h : Rch (leadsL c) nets s) : ∀ i, i < (netsC c).length → nat_ c i = s → cN (netsC c).length (lkC c) (bsC c nets) ((netsC c).length + 1) i = true := by
  have hc := cN_closed (netsC c).length (lkC c) (bsC c nets)
  induction h with
  | base h1 h2 =>
    intro i hi e
    exact hc.1 i hi ((usedB_iff _ _).2 (e ▸ h1))
  | @step s' x l hr h2 h3 h4 ih =>
    intro i hi e
    obtain ⟨k, hk⟩ := List.getElem?_of_mem (leadsL_dom hr.there)
    have hkl := (List.getElem?_eq_some_iff.1 hk).1
    have hks := nat_at hk
    refine hc.2 i k hi hkl (ih k hkl hks) ((usedB_iff _ _).2 ?_)
    have := leads_eq hm (nat_mem hkl)
    rw [hks, h2] at this
    rw [hks, e, ← Option.some.inj this]
    exact h3
theorem range_filter {p : ByteArray → Bool} : ∀ (l : List ByteArray) (th : Nat → Bool), (∀ k s, l[k]? = some s → th k = p s) → ((List.range l.length).filter th).map (fun k => l.getD k noneT) = l.filter p
  | [], _, _ => rfl
  | x :: l, th, h => by
    have ih := range_filter l (fun k => th (k + 1)) (fun k s hk => h (k + 1) s (by rw [List.getElem?_cons_succ]; exact hk))
    rw [List.length_cons, List.range_succ_eq_map, List.filter_cons, List.filter_cons, List.filter_map, ← h 0 x rfl]
    have e : ((List.filter (th ∘ Nat.succ) (List.range l.length)).map Nat.succ).map (fun k => (x :: l).getD k noneT) = l.filter p := by
      rw [← ih, List.map_map]
      rfl
    cases th 0
    · simp only [Bool.false_eq_true, if_false]
      exact e
    · simp only [if_true, List.map_cons]
      rw [e]
      rfl
def rconeL (c : Ci) (nets : List ByteArray) : List ByteArray := ((List.range (netsC c).length).filter (cN (netsC c).length (lkC c) (bsC c nets) ((netsC c).length + 1))).map (nat_ c)
theorem rcone_is {c : Ci} (hm : May c) (nets : List ByteArray) : ConeIs c nets (rconeL c nets) := by
  obtain ⟨l, p, hp, rfl⟩ := coneIs_ex c nets
  refine ⟨p, hp, ?_⟩
  exact range_filter (netsC c) _ (fun k s hk => by
    have hkl := (List.getElem?_eq_some_iff.1 hk).1
    rw [Bool.eq_iff_iff, hp]
    exact ⟨fun h => nat_at hk ▸ (cN_sound hm nets _ k h).2, fun h => cN_all hm nets h k hkl (nat_at hk)⟩)
end Go.Proofs.YtbhoeanfnbkenaaDoor
