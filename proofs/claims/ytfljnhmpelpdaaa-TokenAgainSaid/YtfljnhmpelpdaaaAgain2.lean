/- Words with a blank behind each are the same words again: Verilog. -/
import Derived.Test.YtfljnhmpelpdaaaAgain
namespace Go.Proofs.Ytfljnhmpelpdaaa
open Go.RowKit

/-- a token of Verilog -/
def shV (x : Tk) : Prop := (x.k = 1 ∧ ∃ c, x.t = ⟨#[c]⟩ ∧ mV c = true) ∨ (x.k = 0 ∧ x.t.data.toList ≠ [] ∧ ∀ c ∈ x.t.data.toList, wV c = true) ∨ (x.k = 2 ∧ x.t.data.toList ≠ [] ∧ ∀ c ∈ x.t.data.toList, isIn 33 126 c = true)
theorem eq92 (c : UInt8) : ((c.toNat : Int) = 92) ↔ c = 92 := by
  rw [← UInt8.toNat_inj]
  have : (92 : UInt8).toNat = 92 := rfl
  omega
theorem mV_facts (c : UInt8) (h : mV c = true) : kBl c = false ∧ c ≠ 47 ∧ ¬ (c.toNat : Int) = 92 := by
  have := all256 (fun c => !(([40, 41, 59, 44, 61, 126, 38, 124, 94] : List UInt8).contains c) || (!(([9, 13, 32, 10] : List UInt8).contains c) && (!(c == 47) && !(c == 92)))) (by decide +kernel) c
  have e1 : mV c = ([40, 41, 59, 44, 61, 126, 38, 124, 94] : List UInt8).contains c := isOf_mem _ _
  have e2 : kBl c = ([9, 13, 32, 10] : List UInt8).contains c := isOf_mem _ _
  rw [← e1, ← e2, h] at this
  rw [eq92]
  simpa using this
theorem wV_facts (c : UInt8) (h : wV c = true) : kBl c = false ∧ c ≠ 47 ∧ (¬ (c.toNat : Int) = 92) ∧ mV c = false := by
  have e0 : isOf ⟨#[95, 36, 39]⟩ c = ([95, 36, 39] : List UInt8).contains c := isOf_mem _ _
  have e1 : mV c = ([40, 41, 59, 44, 61, 126, 38, 124, 94] : List UInt8).contains c := isOf_mem _ _
  have e2 : kBl c = ([9, 13, 32, 10] : List UInt8).contains c := isOf_mem _ _
  have e3 : ∀ a b : Nat, isIn (a : Int) (b : Int) c = (decide (a ≤ c.toNat) && decide (c.toNat ≤ b)) := fun a b => by
    unfold isIn
    rw [Bool.eq_iff_iff]
    simp
  have f1 := e3 97 122
  have f2 := e3 65 90
  have f3 := e3 48 57
  simp only [Int.cast_ofNat_Int] at f1 f2 f3
  unfold wV at h
  rw [f1, f2, f3, e0] at h
  have := all256 (fun c => !(((decide (97 ≤ c.toNat) && decide (c.toNat ≤ 122) || decide (65 ≤ c.toNat) && decide (c.toNat ≤ 90)) || decide (48 ≤ c.toNat) && decide (c.toNat ≤ 57)) || ([95, 36, 39] : List UInt8).contains c) || (!(([9, 13, 32, 10] : List UInt8).contains c) && (!(c == 47) && (!(c == 92) && !(([40, 41, 59, 44, 61, 126, 38, 124, 94] : List UInt8).contains c))))) (by decide +kernel) c
  simp only [h, Bool.not_true, Bool.false_or] at this
  rw [← e1, ← e2] at this
  rw [eq92]
  simpa using this
theorem wV32 : wV 32 = false := by
  unfold wV isIn
  rw [isOf_mem]
  rfl
theorem seen32 : isIn 33 126 32 = false := rfl
theorem kBl92 : kBl 92 = false := by unfold kBl; rw [isOf_mem]; rfl

theorem while_ext (p : UInt8 → Bool) (s : ByteArray) (a : Nat) : (s.extract a (skip p s a)).data.toList = (s.data.toList.drop a).takeWhile p := by
  have hsp : s.data.toList.drop a = (s.data.toList.drop a).takeWhile p ++ (s.data.toList.drop a).dropWhile p := (List.takeWhile_append_dropWhile).symm
  have := extract_drop s a _ _ hsp
  change s.extract a (skip p s a) = _ at this
  rw [this]
theorem one_ext (s : ByteArray) (a : Nat) (ha : a < s.size) : s.extract a (a + 1) = ⟨#[s[a]]⟩ := by
  have hd : s.data.toList.drop a = [s[a]] ++ s.data.toList.drop (a + 1) := by
    rw [List.drop_eq_getElem_cons (by simpa using ha)]; rfl
  exact extract_drop s a [s[a]] _ hd
theorem word_sh (p : UInt8 → Bool) (s : ByteArray) (a : Nat) (h : a < skip p s a) (hl : skip p s a ≤ s.size) : (s.extract a (skip p s a)).data.toList ≠ [] ∧ ∀ c ∈ (s.extract a (skip p s a)).data.toList, p c = true := by
  constructor
  · intro e
    have hz := congrArg List.length e
    simp [ByteArray.data_extract] at hz
    omega
  · intro c hc
    rw [while_ext] at hc
    exact mem_while _ _ _ hc

theorem stepV_sh (s : ByteArray) (a : Nat) (l l' : List Tk) (b : Nat) (ha : a < s.size) (hi : ∀ x ∈ l, shV x) (h : stepV s a l = some (l', b)) : ∀ x ∈ l', shV x := by
  have add : ∀ x, shV x → ∀ y ∈ l ++ [x], shV y := by
    intro x hx y hy
    rcases List.mem_append.1 hy with hy | hy
    · exact hi y hy
    · rw [List.mem_singleton.1 hy]; exact hx
  unfold stepV at h
  rw [atB_of s a ha] at h
  split at h
  · cases h; exact hi
  split at h
  · cases h; exact hi
  split at h
  · split at h
    · cases h
    · cases h; exact hi
  split at h
  · split at h
    · cases h
    · rename_i hne
      cases h
      have hge := skip_ge (isIn 33 126) s (a + 1)
      exact add _ (.inr (.inr ⟨rfl, word_sh _ s (a + 1) (by omega) (skip_le _ s (a + 1) (by omega))⟩))
  split at h
  · rename_i hm
    cases h
    exact add _ (.inl ⟨rfl, _, one_ext s a ha, hm⟩)
  split at h
  · rename_i hw
    cases h
    exact add _ (.inr (.inl ⟨rfl, word_sh _ s a (skip_gt wV s a ha (by rw [atB_of s a ha]; exact hw)) (skip_le _ s a (by omega))⟩))
  · cases h

theorem againV (T : ByteArray) : ∀ (l acc : List Tk) (a f : Nat), (∀ x ∈ l, shV x) → T.data.toList.drop a = layL l → a ≤ T.size → T.size ≤ a + f → ∃ m, runAll (stepV T) T.size f acc a = .inl (acc ++ m) ∧ alike l m
  | [], acc, a, f, _, hd, ha, hf => by
    have : a = T.size := by
      have := congrArg List.length hd
      simp [layL] at this
      omega
    refine ⟨[], ?_, trivial⟩
    rw [List.append_nil]
    cases f with
    | zero => rfl
    | succ f => rw [runAll, if_neg (by omega)]
  | x :: l, acc, a, f, hs, hd, ha, hf => by
    have hx := hs x (by simp)
    have hl : ∀ y ∈ l, shV y := fun y hy => hs y (by simp [hy])
    have blank : ∀ acc b f, T.data.toList.drop b = 32 :: layL l → T.size ≤ b + f → ∃ m, runAll (stepV T) T.size f acc b = .inl (acc ++ m) ∧ alike l m := by
      intro acc b f hb hbf
      obtain ⟨h1, h2, h3, h4⟩ := at_drop T b 32 _ hb
      obtain ⟨f, rfl⟩ : ∃ g, f = g + 1 := ⟨f - 1, by omega⟩
      have hst : stepV T b acc = some (acc, b + 1) := by unfold stepV; rw [h3, if_pos kBl32]
      obtain ⟨m, hm, hal⟩ := againV T l acc (b + 1) f hl h4 (by omega) (by omega)
      exact ⟨m, by rw [runAll, if_pos h1, hst]; exact hm, hal⟩
    rcases hx with ⟨hk, c, ht, hc⟩ | ⟨hk, hne, hw⟩ | ⟨hk, hne, hw⟩
    · have hd' : T.data.toList.drop a = c :: 32 :: layL l := by
        rw [hd, layL, List.flatMap_cons, layT, hk, ht]
        rfl
      obtain ⟨h1, h2, h3, h4⟩ := at_drop T a c _ hd'
      obtain ⟨f, rfl⟩ : ∃ g, f = g + 1 := ⟨f - 1, by omega⟩
      obtain ⟨q1, q2, q3⟩ := mV_facts c hc
      have hst : stepV T a acc = some (acc ++ [⟨1, T.extract a (a + 1), a⟩], a + 1) := by
        unfold stepV
        rw [h3, h2, hd', noPrefix _ _ _ _ q2, noPrefix _ _ _ _ q2, if_neg (by rw [q1]; simp), if_neg (by simp), if_neg (by simp), if_neg q3, if_pos hc]
      have hex : T.extract a (a + 1) = x.t := by rw [ht]; exact extract_drop T a [c] _ hd'
      obtain ⟨m, hm, hal⟩ := blank (acc ++ [⟨1, T.extract a (a + 1), a⟩]) (a + 1) f h4 (by omega)
      refine ⟨⟨1, T.extract a (a + 1), a⟩ :: m, ?_, hk, hex.symm, hal⟩
      rw [runAll, if_pos h1, hst]
      simpa using hm
    · obtain ⟨c, t, hct⟩ : ∃ c t, x.t.data.toList = c :: t := by
        cases h : x.t.data.toList with
        | nil => exact absurd h hne
        | cons c t => exact ⟨c, t, rfl⟩
      have hd' : T.data.toList.drop a = x.t.data.toList ++ 32 :: layL l := by
        rw [hd, layL, List.flatMap_cons, layT, hk]
        simp [layL]
      have hd2 : T.data.toList.drop a = c :: (t ++ 32 :: layL l) := by rw [hd', hct]; rfl
      obtain ⟨h1, h2, h3, h4⟩ := at_drop T a c _ hd2
      obtain ⟨f, rfl⟩ : ∃ g, f = g + 1 := ⟨f - 1, by omega⟩
      have hcw := hw c (by rw [hct]; simp)
      obtain ⟨q1, q2, q3, q4⟩ := wV_facts c hcw
      have hsk : skip wV T a = a + x.t.data.toList.length := skip_drop wV T a _ _ hd' hw wV32
      have hex : T.extract a (skip wV T a) = x.t := by rw [hsk]; exact extract_drop T a _ _ hd'
      have hst : stepV T a acc = some (acc ++ [⟨0, T.extract a (skip wV T a), a⟩], skip wV T a) := by
        unfold stepV
        rw [h3, h2, hd2, noPrefix _ _ _ _ q2, noPrefix _ _ _ _ q2, if_neg (by rw [q1]; simp), if_neg (by simp), if_neg (by simp), if_neg q3, if_neg (by rw [q4]; simp), if_pos hcw]
      have hlen : 0 < x.t.data.toList.length := by rw [hct]; simp
      obtain ⟨m, hm, hal⟩ := blank (acc ++ [⟨0, T.extract a (skip wV T a), a⟩]) (skip wV T a) f (by rw [hsk]; exact drop_more T a _ _ hd') (by omega)
      refine ⟨⟨0, T.extract a (skip wV T a), a⟩ :: m, ?_, hk, hex.symm, hal⟩
      rw [runAll, if_pos h1, hst]
      simpa using hm
    · have hd' : T.data.toList.drop a = 92 :: (x.t.data.toList ++ 32 :: layL l) := by
        rw [hd, layL, List.flatMap_cons, layT, hk]
        simp [layL]
      obtain ⟨h1, h2, h3, h4⟩ := at_drop T a 92 _ hd'
      obtain ⟨f, rfl⟩ : ∃ g, f = g + 1 := ⟨f - 1, by omega⟩
      have hsk : skip (isIn 33 126) T (a + 1) = a + 1 + x.t.data.toList.length := skip_drop _ T (a + 1) _ _ h4 hw seen32
      have hex : T.extract (a + 1) (skip (isIn 33 126) T (a + 1)) = x.t := by rw [hsk]; exact extract_drop T (a + 1) _ _ h4
      have hlen : 0 < x.t.data.toList.length := List.length_pos_iff.2 hne
      have hst : stepV T a acc = some (acc ++ [⟨2, T.extract (a + 1) (skip (isIn 33 126) T (a + 1)), a⟩], skip (isIn 33 126) T (a + 1)) := by
        unfold stepV
        rw [h3, h2, hd', noPrefix _ _ _ _ (by decide), noPrefix _ _ _ _ (by decide), if_neg (by rw [kBl92]; simp), if_neg (by simp), if_neg (by simp), if_pos (by decide), if_neg (by omega)]
      obtain ⟨m, hm, hal⟩ := blank (acc ++ [⟨2, T.extract (a + 1) (skip (isIn 33 126) T (a + 1)), a⟩]) (skip (isIn 33 126) T (a + 1)) f (by rw [hsk]; exact drop_more T (a + 1) _ _ h4) (by omega)
      refine ⟨⟨2, T.extract (a + 1) (skip (isIn 33 126) T (a + 1)), a⟩ :: m, ?_, hk, hex.symm, hal⟩
      rw [runAll, if_pos h1, hst]
      simpa using hm
theorem toksV_again (s : ByteArray) (l : List Tk) (h : toksV s = .inl l) : ∃ m, toksV ⟨(layL l).toArray⟩ = .inl m ∧ alike l m := by
  obtain ⟨b, hi⟩ := runAll_inv (fun l _ => ∀ x ∈ l, shV x) (fun a l l' b ha hi h => stepV_sh s a l l' b ha hi h) _ _ _ _ (by simp) h
  obtain ⟨m, hm, hal⟩ := againV ⟨(layL l).toArray⟩ l [] 0 (ByteArray.size ⟨(layL l).toArray⟩) hi (by simp) (by omega) (by omega)
  exact ⟨m, hm, hal⟩
end Go.Proofs.Ytfljnhmpelpdaaa
