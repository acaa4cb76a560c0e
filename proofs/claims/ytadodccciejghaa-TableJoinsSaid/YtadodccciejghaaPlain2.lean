/- Tables, plainly: which may be; what the five laws ask of them. -/
import Derived.Test.YtadodccciejghaaPlain
namespace Go.Proofs.Ytadodccciejghaa

/-- is a byte seen; is a text a name -/
def seenB (c : UInt8) : Bool := decide (33 ≤ c.toNat) && decide (c.toNat ≤ 126)
def nameB (s : ByteArray) : Bool := decide (1 ≤ s.size) && (decide (s.size ≤ 40) && s.data.toList.all seenB)
instance (l : List ByteArray) : Decidable (Once l) := inferInstanceAs (Decidable (l.Pairwise (· ≠ ·)))
/-- the number of what is wrong with a table; 0: nothing -/
def checkF (a b : List ByteArray) : Int :=
  if 200 < a.length ∨ 200 < b.length then 8 else if a.length ≠ b.length then 1
  else if ¬ ((∀ x ∈ a, nameB x = true) ∧ ∀ x ∈ b, nameB x = true) then 4 else if ¬ (Once a ∧ Once b) then 5 else 0
def TableOk (a b : List ByteArray) : Prop :=
  a.length ≤ 200 ∧ a.length = b.length ∧ (∀ x ∈ a, nameB x = true) ∧ (∀ x ∈ b, nameB x = true) ∧ Once a ∧ Once b
theorem check_ok (a b : List ByteArray) : checkF a b = 0 ↔ TableOk a b := by
  unfold checkF TableOk
  by_cases h1 : 200 < a.length ∨ 200 < b.length
  · rw [if_pos h1]
    refine ⟨(fun h => by cases h), fun ⟨h2, h3, _⟩ => ?_⟩
    omega
  · rw [if_neg h1]
    by_cases h2 : a.length = b.length
    · rw [if_neg (by simpa using h2)]
      by_cases h3 : (∀ x ∈ a, nameB x = true) ∧ ∀ x ∈ b, nameB x = true
      · rw [if_neg (fun h => h h3)]
        by_cases h4 : Once a ∧ Once b
        · rw [if_neg (fun h => h h4)]
          exact ⟨fun _ => ⟨by omega, h2, h3.1, h3.2, h4.1, h4.2⟩, fun _ => rfl⟩
        · rw [if_pos h4]
          exact ⟨(fun h => by cases h), fun ⟨_, _, _, _, h5, h6⟩ => absurd ⟨h5, h6⟩ h4⟩
      · rw [if_pos h3]
        exact ⟨(fun h => by cases h), fun ⟨_, _, h5, h6, _⟩ => absurd ⟨h5, h6⟩ h3⟩
    · rw [if_pos h2]
      exact ⟨(fun h => by cases h), fun ⟨_, h3, _⟩ => absurd h3 h2⟩
theorem TableOk.turn {a b : List ByteArray} (h : TableOk a b) : TableOk b a :=
  ⟨h.2.1 ▸ h.1, h.2.1.symm, h.2.2.2.1, h.2.2.1, h.2.2.2.2.2, h.2.2.2.2.1⟩
theorem TableOk.none : TableOk [] [] := ⟨by simp, rfl, by simp, by simp, List.Pairwise.nil, List.Pairwise.nil⟩
theorem TableOk.join {a b c d : List ByteArray} (h : TableOk a b) (h' : TableOk c d) : TableOk ((joinL c d a b).map (·.1)) ((joinL c d a b).map (·.2)) := by
  refine ⟨?_, by simp, fun x hx => ?_, fun x hx => ?_, joinL_from c d a b h.2.2.2.2.1, joinL_to c d h'.2.2.2.2.2 a b h.2.2.2.2.2⟩
  · have := joinL_len c d a b
    have := h.1
    simp
    omega
  · obtain ⟨p, hp, rfl⟩ := List.mem_map.1 hx
    obtain ⟨_, h1, _, _⟩ := joinL_mem c d a b p hp
    exact h.2.2.1 _ h1
  · obtain ⟨p, hp, rfl⟩ := List.mem_map.1 hx
    obtain ⟨y, _, _, h3⟩ := joinL_mem c d a b p hp
    exact h'.2.2.2.1 _ (goL_mem c d y p.2 h3).2
/-- with its inverse a table goes nowhere -/
theorem join_turn {a b : List ByteArray} (h : TableOk a b) (s : ByteArray) : goL ((joinL b a a b).map (·.1)) ((joinL b a a b).map (·.2)) s = (goL a b s).map fun _ => s := by
  rw [joinL_go b a a b s h.2.2.2.2.1]
  cases hg : goL a b s with
  | none => rfl
  | some y => rw [Option.bind_some, Option.map_some]; exact go_back a b s y h.2.2.2.2.2 hg
/-- the last place of a text is its first one where none is twice -/
theorem last_first : ∀ (l : List ByteArray) (s : ByteArray) (i j : Nat), Once l → l[i]? = some s → l[j]? = some s → i = j
  | [], s, i, j, _, h, _ => by simp at h
  | x :: l, s, 0, 0, _, _, _ => rfl
  | x :: l, s, 0, j + 1, h, h1, h2 => by
    simp at h1
    simp only [List.getElem?_cons_succ] at h2
    exact absurd h1 ((List.pairwise_cons.1 h).1 s (List.mem_of_getElem? h2))
  | x :: l, s, i + 1, 0, h, h1, h2 => by
    simp at h2
    simp only [List.getElem?_cons_succ] at h1
    exact absurd h2 ((List.pairwise_cons.1 h).1 s (List.mem_of_getElem? h1))
  | x :: l, s, i + 1, j + 1, h, h1, h2 => by
    simp only [List.getElem?_cons_succ] at h1 h2
    rw [last_first l s i j (List.pairwise_cons.1 h).2 h1 h2]
/-- none twice, place by place -/
theorem once_iff : ∀ l : List ByteArray, Once l ↔ ∀ (i : Nat) (s : ByteArray), l[i]? = some s → s ∉ l.take i
  | [] => by simp [Once]
  | x :: l => by
    have ih := once_iff l
    unfold Once at ih ⊢
    rw [List.pairwise_cons, ih]
    constructor
    · rintro ⟨h1, h2⟩ i s hs
      cases i with
      | zero => simp
      | succ i =>
        simp only [List.getElem?_cons_succ] at hs
        rw [List.take_succ_cons, List.mem_cons]
        rintro (h | h)
        · exact h1 s (List.mem_of_getElem? hs) h.symm
        · exact h2 i s hs h
    · intro h
      refine ⟨fun s hs he => ?_, fun i s hs hm => ?_⟩
      · obtain ⟨i, hi⟩ := List.getElem?_of_mem hs
        exact h (i + 1) s (by simpa using hi) (by rw [List.take_succ_cons, he]; simp)
      · exact h (i + 1) s (by simpa using hs) (by rw [List.take_succ_cons]; exact List.mem_cons_of_mem _ hm)
end Go.Proofs.Ytadodccciejghaa
