/- Tables, plainly: two lists of texts. -/
import Derived.Lib.Strings
namespace Go.Proofs.Ytadodccciejghaa

/-- where a text goes: what stands on the other side at its first place -/
def goL : List ByteArray → List ByteArray → ByteArray → Option ByteArray
  | x :: a, y :: b, s => if x = s then some y else goL a b s
  | _, _, _ => none
/-- no text twice -/
def Once (l : List ByteArray) : Prop := l.Pairwise (· ≠ ·)

theorem goL_at : ∀ (a b : List ByteArray) (s y : ByteArray), goL a b s = some y → ∃ i : Nat, a[i]? = some s ∧ b[i]? = some y
  | [], _, s, y, h => by simp [goL] at h
  | _ :: _, [], s, y, h => by simp [goL] at h
  | x :: a, z :: b, s, y, h => by
    rw [goL] at h
    split at h
    · rename_i e
      cases h
      exact ⟨0, by simp [e], by simp⟩
    · obtain ⟨i, h1, h2⟩ := goL_at a b s y h
      exact ⟨i + 1, by simpa using h1, by simpa using h2⟩
theorem goL_of : ∀ (a b : List ByteArray) (i : Nat) (s y : ByteArray), Once a → a[i]? = some s → b[i]? = some y → goL a b s = some y
  | [], _, i, s, y, _, h, _ => by simp at h
  | _ :: _, [], i, s, y, _, _, h => by simp at h
  | x :: a, z :: b, 0, s, y, _, h1, h2 => by
    simp at h1 h2
    rw [goL, if_pos h1, h2]
  | x :: a, z :: b, i + 1, s, y, hn, h1, h2 => by
    simp only [List.getElem?_cons_succ] at h1 h2
    have hp := List.pairwise_cons.1 hn
    rw [goL, if_neg (hp.1 s (List.mem_of_getElem? h1))]
    exact goL_of a b i s y hp.2 h1 h2
theorem goL_none : ∀ (a b : List ByteArray) (s : ByteArray), a.length = b.length → (goL a b s = none ↔ s ∉ a)
  | [], _, s, _ => by simp [goL]
  | x :: a, [], s, h => by simp at h
  | x :: a, z :: b, s, h => by
    rw [goL]
    have ih := goL_none a b s (by simpa using h)
    split
    · rename_i e
      simp [e]
    · rename_i e
      rw [ih]
      simp
      exact fun _ h => e h.symm
theorem goL_mem (a b : List ByteArray) (s y : ByteArray) (h : goL a b s = some y) : s ∈ a ∧ y ∈ b := by
  obtain ⟨i, h1, h2⟩ := goL_at a b s y h
  exact ⟨List.mem_of_getElem? h1, List.mem_of_getElem? h2⟩
/-- there and back -/
theorem go_back (a b : List ByteArray) (s y : ByteArray) (hb : Once b) (h : goL a b s = some y) : goL b a y = some s := by
  obtain ⟨i, h1, h2⟩ := goL_at a b s y h
  exact goL_of b a i y s hb h2 h1

/-- one behind the other: what goes on -/
def joinL (c d : List ByteArray) : List ByteArray → List ByteArray → List (ByteArray × ByteArray)
  | x :: a, y :: b => match goL c d y with
    | some z => (x, z) :: joinL c d a b
    | none => joinL c d a b
  | _, _ => []
theorem joinL_mem (c d : List ByteArray) : ∀ (a b : List ByteArray) (p : ByteArray × ByteArray), p ∈ joinL c d a b → ∃ y, p.1 ∈ a ∧ y ∈ b ∧ goL c d y = some p.2
  | [], _, p, h => by simp [joinL] at h
  | _ :: _, [], p, h => by simp [joinL] at h
  | x :: a, z :: b, p, h => by
    rw [joinL] at h
    split at h
    · rename_i w hw
      rcases List.mem_cons.1 h with h | h
      · subst h
        exact ⟨z, by simp, by simp, hw⟩
      · obtain ⟨y, h1, h2, h3⟩ := joinL_mem c d a b p h
        exact ⟨y, by simp [h1], by simp [h2], h3⟩
    · obtain ⟨y, h1, h2, h3⟩ := joinL_mem c d a b p h
      exact ⟨y, by simp [h1], by simp [h2], h3⟩
theorem joinL_len (c d : List ByteArray) : ∀ (a b : List ByteArray), (joinL c d a b).length ≤ a.length
  | [], _ => by simp [joinL]
  | _ :: _, [] => by simp [joinL]
  | x :: a, z :: b => by
    rw [joinL]
    have := joinL_len c d a b
    split <;> simp <;> omega
theorem joinL_from (c d : List ByteArray) : ∀ (a b : List ByteArray), Once a → Once ((joinL c d a b).map (·.1))
  | [], _, _ => List.Pairwise.nil
  | _ :: _, [], _ => List.Pairwise.nil
  | x :: a, z :: b, h => by
    have hp := List.pairwise_cons.1 h
    rw [joinL]
    split
    · rw [List.map_cons]
      refine List.pairwise_cons.2 ⟨fun y hy => ?_, joinL_from c d a b hp.2⟩
      obtain ⟨p, hp', rfl⟩ := List.mem_map.1 hy
      obtain ⟨_, h1, _, _⟩ := joinL_mem c d a b p hp'
      exact hp.1 p.1 h1
    · exact joinL_from c d a b hp.2
theorem joinL_to (c d : List ByteArray) (hd : Once d) : ∀ (a b : List ByteArray), Once b → Once ((joinL c d a b).map (·.2))
  | [], _, _ => List.Pairwise.nil
  | _ :: _, [], _ => List.Pairwise.nil
  | x :: a, z :: b, h => by
    have hp := List.pairwise_cons.1 h
    rw [joinL]
    split
    · rename_i w hw
      rw [List.map_cons]
      refine List.pairwise_cons.2 ⟨fun y hy => ?_, joinL_to c d hd a b hp.2⟩
      obtain ⟨p, hp', rfl⟩ := List.mem_map.1 hy
      obtain ⟨y', _, h2, h3⟩ := joinL_mem c d a b p hp'
      intro e
      have e1 := go_back c d z w hd hw
      have e2 := go_back c d y' p.2 hd h3
      simp only at e
      rw [e, e2] at e1
      exact hp.1 y' h2 (Option.some.inj e1).symm
    · exact joinL_to c d hd a b hp.2
/-- it goes where both go -/
theorem joinL_go (c d : List ByteArray) : ∀ (a b : List ByteArray) (s : ByteArray), Once a → goL ((joinL c d a b).map (·.1)) ((joinL c d a b).map (·.2)) s = (goL a b s).bind fun y => goL c d y
  | [], _, s, _ => by simp [joinL, goL]
  | _ :: _, [], s, _ => by simp [joinL, goL]
  | x :: a, z :: b, s, h => by
    have hp := List.pairwise_cons.1 h
    have ih := joinL_go c d a b s hp.2
    rw [joinL, goL]
    by_cases e : x = s
    · rw [if_pos e, Option.bind_some]
      cases hw : goL c d z with
      | some w => simp only []; rw [List.map_cons, List.map_cons, goL, if_pos e]
      | none =>
        simp only []
        rw [ih]
        cases hg : goL a b s with
        | none => rfl
        | some y => exact absurd e (hp.1 s (goL_mem a b s y hg).1)
    · rw [if_neg e]
      cases hw : goL c d z with
      | some w => simp only []; rw [List.map_cons, List.map_cons, goL, if_neg e, ih]
      | none => simp only []; exact ih

/-- where texts go: all, or none -/
def mapL (a b : List ByteArray) : List ByteArray → Option (List ByteArray)
  | [] => some []
  | s :: l => match goL a b s with
    | some y => (mapL a b l).map (y :: ·)
    | none => none
theorem mapL_len (a b : List ByteArray) : ∀ (l m : List ByteArray), mapL a b l = some m → m.length = l.length
  | [], m, h => by simp [mapL] at h; subst h; rfl
  | s :: l, m, h => by
    rw [mapL] at h
    split at h
    · obtain ⟨m', h1, rfl⟩ := Option.map_eq_some_iff.1 h
      simp [mapL_len a b l m' h1]
    · cases h
theorem mapL_back (a b : List ByteArray) (hb : Once b) : ∀ (l m : List ByteArray), mapL a b l = some m → mapL b a m = some l
  | [], m, h => by simp [mapL] at h; subst h; rfl
  | s :: l, m, h => by
    rw [mapL] at h
    split at h
    · rename_i y hy
      obtain ⟨m', h1, rfl⟩ := Option.map_eq_some_iff.1 h
      rw [mapL, go_back a b s y hb hy]
      simp only []
      rw [mapL_back a b hb l m' h1]
      rfl
    · cases h
theorem mapL_all (a b : List ByteArray) (hl : a.length = b.length) : ∀ l : List ByteArray, (mapL a b l).isSome = true ↔ ∀ s ∈ l, s ∈ a
  | [] => by simp [mapL]
  | s :: l => by
    have ih := mapL_all a b hl l
    rw [mapL]
    cases hg : goL a b s with
    | some y =>
      simp only [Option.isSome_map]
      rw [ih]
      have := (goL_mem a b s y hg).1
      simp [this]
    | none =>
      have := (goL_none a b s hl).1 hg
      simp [this]
end Go.Proofs.Ytadodccciejghaa
