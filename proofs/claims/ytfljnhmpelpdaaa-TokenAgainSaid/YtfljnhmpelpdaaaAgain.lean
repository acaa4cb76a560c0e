/- Words with a blank behind each are the same words again: plain. -/
import Derived.Test.YtfljnhmpelpdaaaRefN
namespace Go.Proofs.Ytfljnhmpelpdaaa
open Go.RowKit

theorem all256 (p : UInt8 → Bool) (h : ∀ i : Fin 256, p (UInt8.ofNat i.val) = true) (c : UInt8) : p c = true := by
  have := h ⟨c.toNat, c.toNat_lt⟩
  simpa using this
/-- a token's bytes, as they are laid -/
def layT (x : Tk) : List UInt8 := (if x.k = 2 then [92] else []) ++ ((if x.k = 3 then [10] else []) ++ (x.t.data.toList ++ [32]))
def layL (l : List Tk) : List UInt8 := l.flatMap layT
/-- the same kinds, and the same texts -/
def alike : List Tk → List Tk → Prop
  | [], [] => True
  | x :: l, y :: m => x.k = y.k ∧ x.t = y.t ∧ alike l m
  | _, _ => False

theorem runAll_inv {st : Nat → List Tk → Option (List Tk × Nat)} {n : Nat} (Inv : List Tk → Nat → Prop) (h : ∀ a l l' b, a < n → Inv l a → st a l = some (l', b) → Inv l' b) :
    ∀ (f : Nat) (l : List Tk) (a : Nat) (m : List Tk), Inv l a → runAll st n f l a = .inl m → ∃ b, Inv m b
  | 0, l, a, m, hi, hr => by
    rw [runAll] at hr
    cases hr
    exact ⟨a, hi⟩
  | f + 1, l, a, m, hi, hr => by
    rw [runAll] at hr
    by_cases ha : a < n
    · rw [if_pos ha] at hr
      cases hst : st a l with
      | none => rw [hst] at hr; cases hr
      | some q =>
        obtain ⟨l', b⟩ := q
        rw [hst] at hr
        exact runAll_inv Inv h f l' b m (h a l l' b ha hi hst) hr
    · rw [if_neg ha] at hr
      cases hr
      exact ⟨a, hi⟩

/-- the bytes from a place on -/
theorem at_drop (s : ByteArray) (a : Nat) (c : UInt8) (l : List UInt8) (h : s.data.toList.drop a = c :: l) : a < s.size ∧ atB s a = (c.toNat : Int) ∧ UInt8.ofNat (atB s a).toNat = c ∧ s.data.toList.drop (a + 1) = l := by
  have hl : a < s.data.toList.length := by
    rcases Nat.lt_or_ge a s.data.toList.length with h1 | h1
    · exact h1
    · rw [List.drop_of_length_le h1] at h; cases h
  have ha : a < s.size := by simpa using hl
  rw [List.drop_eq_getElem_cons hl] at h
  injection h with h1 h2
  have hc : s[a] = c := h1
  refine ⟨ha, by rw [atB_get s a ha, hc], by rw [atB_of s a ha, hc], h2⟩
theorem extract_drop (s : ByteArray) (a : Nat) (t l : List UInt8) (h : s.data.toList.drop a = t ++ l) : s.extract a (a + t.length) = ⟨t.toArray⟩ := by
  apply ByteArray.ext
  apply Array.ext'
  rw [ByteArray.data_extract, Array.toList_extract, List.extract_eq_take_drop, h]
  simp
theorem skip_drop (p : UInt8 → Bool) (s : ByteArray) (a : Nat) (t l : List UInt8) (h : s.data.toList.drop a = t ++ 32 :: l) (ht : ∀ c ∈ t, p c = true) (hp : p 32 = false) : skip p s a = a + t.length := by
  unfold skip
  rw [h, List.takeWhile_append_of_pos (by simpa using ht), List.takeWhile_cons, hp]
  simp
theorem drop_more (s : ByteArray) (a : Nat) (t l : List UInt8) (h : s.data.toList.drop a = t ++ l) : s.data.toList.drop (a + t.length) = l := by
  rw [← List.drop_drop, h, List.drop_left]
theorem noPrefix (c d : UInt8) (l t : List UInt8) (h : c ≠ d) : Lib.hasPrefix (c :: l) (d :: t) = false := by
  unfold Lib.hasPrefix
  simp [List.isPrefixOf]
  exact fun e => absurd e.symm h

theorem mem_while (p : UInt8 → Bool) : ∀ (l : List UInt8) (c : UInt8), c ∈ l.takeWhile p → p c = true
  | [], c, h => by simp at h
  | x :: l, c, h => by
    rw [List.takeWhile_cons] at h
    cases hx : p x
    · rw [hx] at h; simp at h
    · rw [hx] at h
      simp only [if_true, List.mem_cons] at h
      rcases h with rfl | h
      · exact hx
      · exact mem_while p l c h
/-- a token of BENCH -/
def shN (x : Tk) : Prop := (x.k = 1 ∧ ∃ c, x.t = ⟨#[c]⟩ ∧ kM c = true) ∨ (x.k = 0 ∧ x.t.data.toList ≠ [] ∧ ∀ c ∈ x.t.data.toList, wN c = true)
theorem kBl32 : kBl 32 = true := by unfold kBl; rw [isOf_mem]; rfl
theorem isOfC (l : List UInt8) (c : UInt8) : isOf ⟨l.toArray⟩ c = l.contains c := by rw [isOf_mem]
theorem kM_facts (c : UInt8) (h : kM c = true) : kBl c = false ∧ (c.toNat : Int) ≠ 35 := by
  have := all256 (fun c => !(([61, 40, 41, 44] : List UInt8).contains c) || (!(([9, 13, 32, 10] : List UInt8).contains c) && !(c == 35))) (by decide +kernel) c
  have e1 : kM c = ([61, 40, 41, 44] : List UInt8).contains c := isOf_mem _ _
  have e2 : kBl c = ([9, 13, 32, 10] : List UInt8).contains c := isOf_mem _ _
  rw [← e1, ← e2, ← eq35, h] at this
  simpa using this
theorem wN_facts (c : UInt8) (h : wN c = true) : kBl c = false ∧ (c.toNat : Int) ≠ 35 ∧ kM c = false := by
  rw [wN_is] at h
  have e1 : kM c = ([61, 40, 41, 44] : List UInt8).contains c := isOf_mem _ _
  have e2 : kBl c = ([9, 13, 32, 10] : List UInt8).contains c := isOf_mem _ _
  have e3 : isOf ⟨#[61, 40, 41, 44, 35]⟩ c = ([61, 40, 41, 44, 35] : List UInt8).contains c := isOf_mem _ _
  have := all256 (fun c => !(decide (32 < c.toNat) && (decide (c.toNat < 127) && !([61, 40, 41, 44, 35] : List UInt8).contains c)) || (!(([9, 13, 32, 10] : List UInt8).contains c) && (!(c == 35) && !(([61, 40, 41, 44] : List UInt8).contains c)))) (by decide +kernel) c
  rw [← e1, ← e2, ← e3, ← eq35] at this
  simp only [Bool.and_eq_true, decide_eq_true_eq, Bool.not_eq_true'] at h
  obtain ⟨h1, h2, h3⟩ := h
  rw [h3, decide_eq_true (show 32 < c.toNat by omega), decide_eq_true (show c.toNat < 127 by omega)] at this
  simpa using this
theorem wN32 : wN 32 = false := by
  rw [wN_is]
  rfl

theorem stepN_sh (s : ByteArray) (a : Nat) (l l' : List Tk) (b : Nat) (ha : a < s.size) (hi : ∀ x ∈ l, shN x) (h : stepN s a l = some (l', b)) : ∀ x ∈ l', shN x := by
  unfold stepN at h
  rw [atB_of s a ha] at h
  have add : ∀ x, shN x → ∀ y ∈ l ++ [x], shN y := by
    intro x hx y hy
    rcases List.mem_append.1 hy with hy | hy
    · exact hi y hy
    · rw [List.mem_singleton.1 hy]; exact hx
  have h1 : (s.extract a (a + 1)) = ⟨#[s[a]]⟩ := by
    have hd : s.data.toList.drop a = [s[a]] ++ s.data.toList.drop (a + 1) := by
      rw [List.drop_eq_getElem_cons (by simpa using ha)]; rfl
    exact extract_drop s a [s[a]] _ hd
  split at h
  · cases h; exact hi
  split at h
  · cases h; exact hi
  split at h
  · rename_i hm
    cases h
    exact add _ (.inl ⟨rfl, _, h1, hm⟩)
  split at h
  · rename_i hw
    cases h
    refine add _ (.inr ⟨rfl, ?_, ?_⟩)
    · have hg := skip_gt wN s a ha (by rw [atB_of s a ha]; exact hw)
      have hle := skip_le wN s a (by omega)
      intro e
      have hz := congrArg List.length e
      simp [ByteArray.data_extract] at hz
      omega
    · intro c hc
      have hsp : s.data.toList.drop a = (s.data.toList.drop a).takeWhile wN ++ (s.data.toList.drop a).dropWhile wN := (List.takeWhile_append_dropWhile).symm
      have := extract_drop s a _ _ hsp
      change s.extract a (skip wN s a) = _ at this
      rw [this] at hc
      exact mem_while _ _ _ hc
  · cases h

theorem againN (T : ByteArray) : ∀ (l acc : List Tk) (a f : Nat), (∀ x ∈ l, shN x) → T.data.toList.drop a = layL l → a ≤ T.size → T.size ≤ a + f → ∃ m, runAll (stepN T) T.size f acc a = .inl (acc ++ m) ∧ alike l m
  | [], acc, a, f, _, hd, ha, hf => by
    have : a = T.size := by
      have := congrArg List.length hd
      simp [layL] at this
      omega
    refine ⟨[], ?_, trivial⟩
    rw [List.append_nil]
    cases f with
    | zero => rfl
    | succ f => rw [runAll, if_neg (by omega)]
  | x :: l, acc, a, f, hs, hd, ha, hf => by
    have hx := hs x (by simp)
    have hl : ∀ y ∈ l, shN y := fun y hy => hs y (by simp [hy])
    have blank : ∀ acc b f, T.data.toList.drop b = 32 :: layL l → T.size ≤ b + f → ∃ m, runAll (stepN T) T.size f acc b = .inl (acc ++ m) ∧ alike l m := by
      intro acc b f hb hbf
      obtain ⟨h1, h2, h3, h4⟩ := at_drop T b 32 _ hb
      obtain ⟨f, rfl⟩ : ∃ g, f = g + 1 := ⟨f - 1, by omega⟩
      have hst : stepN T b acc = some (acc, b + 1) := by unfold stepN; rw [h3, if_pos kBl32]
      obtain ⟨m, hm, hal⟩ := againN T l acc (b + 1) f hl h4 (by omega) (by omega)
      exact ⟨m, by rw [runAll, if_pos h1, hst]; exact hm, hal⟩
    rcases hx with ⟨hk, c, ht, hc⟩ | ⟨hk, hne, hw⟩
    · have hd' : T.data.toList.drop a = c :: 32 :: layL l := by
        rw [hd, layL, List.flatMap_cons, layT, hk, ht]
        rfl
      obtain ⟨h1, h2, h3, h4⟩ := at_drop T a c _ hd'
      obtain ⟨f, rfl⟩ : ∃ g, f = g + 1 := ⟨f - 1, by omega⟩
      obtain ⟨q1, q2⟩ := kM_facts c hc
      have hst : stepN T a acc = some (acc ++ [⟨1, T.extract a (a + 1), a⟩], a + 1) := by
        unfold stepN
        rw [h3, h2, if_neg (by rw [q1]; simp), if_neg q2, if_pos hc]
      have hex : T.extract a (a + 1) = x.t := by rw [ht]; exact extract_drop T a [c] _ hd'
      obtain ⟨m, hm, hal⟩ := blank (acc ++ [⟨1, T.extract a (a + 1), a⟩]) (a + 1) f h4 (by omega)
      refine ⟨⟨1, T.extract a (a + 1), a⟩ :: m, ?_, hk, hex.symm, hal⟩
      rw [runAll, if_pos h1, hst]
      simpa using hm
    · obtain ⟨c, t, hct⟩ : ∃ c t, x.t.data.toList = c :: t := by
        cases h : x.t.data.toList with
        | nil => exact absurd h hne
        | cons c t => exact ⟨c, t, rfl⟩
      have hd' : T.data.toList.drop a = x.t.data.toList ++ 32 :: layL l := by
        rw [hd, layL, List.flatMap_cons, layT, hk]
        simp [layL]
      have hd2 : T.data.toList.drop a = c :: (t ++ 32 :: layL l) := by rw [hd', hct]; rfl
      obtain ⟨h1, h2, h3, h4⟩ := at_drop T a c _ hd2
      obtain ⟨f, rfl⟩ : ∃ g, f = g + 1 := ⟨f - 1, by omega⟩
      have hcw := hw c (by rw [hct]; simp)
      obtain ⟨q1, q2, q3⟩ := wN_facts c hcw
      have hsk : skip wN T a = a + x.t.data.toList.length := skip_drop wN T a _ _ hd' hw wN32
      have hex : T.extract a (skip wN T a) = x.t := by rw [hsk]; exact extract_drop T a _ _ hd'
      have hst : stepN T a acc = some (acc ++ [⟨0, T.extract a (skip wN T a), a⟩], skip wN T a) := by
        unfold stepN
        rw [h3, h2, if_neg (by rw [q1]; simp), if_neg q2, if_neg (by rw [q3]; simp), if_pos hcw]
      have hlen : 0 < x.t.data.toList.length := by rw [hct]; simp
      obtain ⟨m, hm, hal⟩ := blank (acc ++ [⟨0, T.extract a (skip wN T a), a⟩]) (skip wN T a) f (by rw [hsk]; exact drop_more T a _ _ hd') (by omega)
      refine ⟨⟨0, T.extract a (skip wN T a), a⟩ :: m, ?_, hk, hex.symm, hal⟩
      rw [runAll, if_pos h1, hst]
      simpa using hm
theorem toksN_again (s : ByteArray) (l : List Tk) (h : toksN s = .inl l) : ∃ m, toksN ⟨(layL l).toArray⟩ = .inl m ∧ alike l m := by
  obtain ⟨b, hi⟩ := runAll_inv (fun l _ => ∀ x ∈ l, shN x) (fun a l l' b ha hi h => stepN_sh s a l l' b ha hi h) _ _ _ _ (by simp) h
  obtain ⟨m, hm, hal⟩ := againN ⟨(layL l).toArray⟩ l [] 0 (ByteArray.size ⟨(layL l).toArray⟩) hi (by simp) (by omega) (by omega)
  exact ⟨m, hm, hal⟩
end Go.Proofs.Ytfljnhmpelpdaaa
