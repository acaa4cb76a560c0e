/- Tokens stand one behind the other, and their texts are there: plain. -/
import Derived.Test.YtfljnhmpelpdaaaWorks
namespace Go.Proofs.Ytfljnhmpelpdaaa

/-- where a token's text begins -/
def beg (x : Tk) : Nat := if x.k = 2 then x.p + 1 else x.p
/-- a token stands at its place, from a place on -/
def Stand (s : ByteArray) (last : Nat) (x : Tk) : Prop :=
  last ≤ x.p ∧ beg x + x.t.size ≤ s.size ∧ s.extract (beg x) (beg x + x.t.size) = x.t ∧ (x.t.size = 0 → x.k = 3) ∧ x.k ≤ 3
/-- tokens stand one behind the other; the last one ends ahead of a place -/
def PlS (s : ByteArray) : List Tk → Nat → Nat → Prop
  | [], b, e => b ≤ e
  | x :: l, b, e => Stand s b x ∧ PlS s l (beg x + x.t.size) e
theorem PlS.mono {s : ByteArray} : ∀ {l : List Tk} {b e e' : Nat}, PlS s l b e → e ≤ e' → PlS s l b e'
  | [], _, _, _, h, h' => Nat.le_trans h h'
  | _ :: _, _, _, _, h, h' => ⟨h.1, PlS.mono h.2 h'⟩
theorem PlS.snoc {s : ByteArray} {x : Tk} : ∀ {l : List Tk} {b e : Nat}, PlS s l b e → Stand s e x → PlS s (l ++ [x]) b (beg x + x.t.size)
  | [], _, _, h, hx => ⟨⟨Nat.le_trans h hx.1, hx.2⟩, Nat.le_refl _⟩
  | _ :: _, _, _, h, hx => ⟨h.1, PlS.snoc h.2 hx⟩

theorem stand_ext (s : ByteArray) (k a b : Nat) (hk : k ≠ 2) (hk3 : k ≤ 3) (hab : a < b) (hb : b ≤ s.size) : Stand s a ⟨k, s.extract a b, a⟩ ∧ beg ⟨k, s.extract a b, a⟩ + (s.extract a b).size = b := by
  have hsz : (s.extract a b).size = b - a := by rw [ByteArray.size_extract]; omega
  have hb' : beg ⟨k, s.extract a b, a⟩ = a := by unfold beg; rw [if_neg hk]
  refine ⟨⟨Nat.le_refl _, ?_, ?_, ?_, hk3⟩, ?_⟩
  · rw [hb']; simp only [hsz]; omega
  · rw [hb']; simp only [hsz]; rw [show a + (b - a) = b from by omega]
  · intro h; simp only [hsz] at h; omega
  · rw [hb', hsz]; omega
theorem stand_esc (s : ByteArray) (a b : Nat) (hab : a + 1 < b) (hb : b ≤ s.size) : Stand s a ⟨2, s.extract (a + 1) b, a⟩ ∧ beg ⟨2, s.extract (a + 1) b, a⟩ + (s.extract (a + 1) b).size = b := by
  have hsz : (s.extract (a + 1) b).size = b - (a + 1) := by rw [ByteArray.size_extract]; omega
  have hb' : beg ⟨2, s.extract (a + 1) b, a⟩ = a + 1 := rfl
  refine ⟨⟨Nat.le_refl _, ?_, ?_, ?_, by simp⟩, ?_⟩
  · rw [hb']; simp only [hsz]; omega
  · rw [hb']; simp only [hsz]; rw [show a + 1 + (b - (a + 1)) = b from by omega]
  · intro h; simp only [hsz] at h; omega
  · rw [hb', hsz]; omega
theorem bytesEmpty {x : ByteArray} (h : x.size = 0) : x = ⟨#[]⟩ := by
  cases x with | mk d => cases d with | mk l =>
  have h2 : l.length = 0 := h
  rw [List.length_eq_zero_iff.1 h2]
theorem stand_end (s : ByteArray) (a : Nat) (ha : a ≤ s.size) : Stand s a ⟨3, ⟨#[]⟩, a⟩ ∧ beg ⟨3, ⟨#[]⟩, a⟩ + (⟨#[]⟩ : ByteArray).size = a := by
  have hb' : beg ⟨3, ⟨#[]⟩, a⟩ = a := rfl
  have h0 : (⟨#[]⟩ : ByteArray).size = 0 := rfl
  refine ⟨⟨Nat.le_refl _, ?_, ?_, fun _ => rfl, by simp⟩, ?_⟩
  · rw [hb']; simp only [h0]; omega
  · rw [hb']; simp only [h0, Nat.add_zero]
    apply bytesEmpty
    rw [ByteArray.size_extract]; omega
  · rw [hb', h0]; rfl

/-- of a run: each step adds a token that stands there, or none -/
theorem run_placed (s : ByteArray) (st : Nat → List Tk → Option (List Tk × Nat)) (n : Nat)
    (h : ∀ a l l' b, a < n → PlS s l 0 a → st a l = some (l', b) → PlS s l' 0 b) :
    ∀ (f : Nat) (l : List Tk) (a : Nat) (r : List Tk), PlS s l 0 a → (∀ a l l' b, a < n → st a l = some (l', b) → b ≤ n) → a ≤ n → runAll st n f l a = .inl r → PlS s r 0 n
  | 0, l, a, r, h1, _, h3, h4 => by
    simp only [runAll, Sum.inl.injEq] at h4
    subst h4
    exact h1.mono h3
  | f + 1, l, a, r, h1, h2, h3, h4 => by
    rw [runAll] at h4
    split at h4
    · rename_i hlt
      cases hst : st a l with
      | none => rw [hst] at h4; cases h4
      | some q =>
        obtain ⟨l', b⟩ := q
        rw [hst] at h4
        exact run_placed s st n h f l' b r (h a l l' b hlt h1 hst) h2 (h2 a l l' b hlt hst) h4
    · simp only [Sum.inl.injEq] at h4
      subst h4
      exact h1.mono h3

theorem endL_placed (s : ByteArray) (l : List Tk) (a : Nat) (ha : a ≤ s.size) (h : PlS s l 0 a) : PlS s (endL l a) 0 a := by
  unfold endL
  split
  · exact h
  · split
    · exact h
    · have := h.snoc (stand_end s a ha).1
      rwa [(stand_end s a ha).2] at this
theorem stepB_placed (s : ByteArray) (a : Nat) (l : List Tk) (h : a < s.size) (hp : PlS s l 0 a) : PlS s (stepB s a l).1 0 (stepB s a l).2 := by
  have hgo := stepB_go s a l h
  unfold stepB at hgo ⊢
  split
  · exact (endL_placed s l a (by omega) hp).mono (by simp)
  rename_i h1
  rw [if_neg h1] at hgo
  split
  · rename_i h2
    rw [if_pos h2] at hgo
    exact hp.mono (by simp only at hgo; omega)
  rename_i h2
  rw [if_neg h2] at hgo
  split
  · exact hp.mono (by simp)
  rename_i h3
  rw [if_neg h3] at hgo
  split
  · have e := stand_ext s 0 a (a + 1) (by omega) (by omega) (by omega) (by omega)
    have := hp.snoc e.1
    rwa [e.2] at this
  rename_i h4
  rw [if_neg h4] at hgo
  split
  · rename_i h5
    rw [if_pos h5] at hgo
    have e := stand_ext s 0 a (skip wB s a) (by omega) (by omega) hgo.1 hgo.2.1
    have := hp.snoc e.1
    rwa [e.2] at this
  · exact hp.mono (by simp)

theorem stepN_placed (s : ByteArray) (a : Nat) (l l' : List Tk) (b : Nat) (h : a < s.size) (hp : PlS s l 0 a) (hst : stepN s a l = some (l', b)) : PlS s l' 0 b := by
  have hgo := stepN_go s a l l' b h hst
  unfold stepN at hst
  split at hst
  · simp only [Option.some.injEq, Prod.mk.injEq] at hst; obtain ⟨rfl, rfl⟩ := hst; exact hp.mono (by omega)
  split at hst
  · simp only [Option.some.injEq, Prod.mk.injEq] at hst; obtain ⟨rfl, rfl⟩ := hst; exact hp.mono (by omega)
  split at hst
  · simp only [Option.some.injEq, Prod.mk.injEq] at hst; obtain ⟨rfl, rfl⟩ := hst
    have e := stand_ext s 1 a (a + 1) (by omega) (by omega) (by omega) (by omega)
    have := hp.snoc e.1
    rwa [e.2] at this
  split at hst
  · simp only [Option.some.injEq, Prod.mk.injEq] at hst; obtain ⟨rfl, rfl⟩ := hst
    have e := stand_ext s 0 a (skip wN s a) (by omega) (by omega) hgo.1 hgo.2.1
    have := hp.snoc e.1
    rwa [e.2] at this
  · cases hst
theorem stepV_placed (s : ByteArray) (a : Nat) (l l' : List Tk) (b : Nat) (h : a < s.size) (hp : PlS s l 0 a) (hst : stepV s a l = some (l', b)) : PlS s l' 0 b := by
  have hgo := stepV_go s a l l' b h hst
  unfold stepV at hst
  split at hst
  · simp only [Option.some.injEq, Prod.mk.injEq] at hst; obtain ⟨rfl, rfl⟩ := hst; exact hp.mono (by omega)
  split at hst
  · simp only [Option.some.injEq, Prod.mk.injEq] at hst; obtain ⟨rfl, rfl⟩ := hst; exact hp.mono (by omega)
  split at hst
  · split at hst
    · cases hst
    · simp only [Option.some.injEq, Prod.mk.injEq] at hst; obtain ⟨rfl, rfl⟩ := hst; exact hp.mono (by omega)
  split at hst
  · split at hst
    · cases hst
    · rename_i h5
      simp only [Option.some.injEq, Prod.mk.injEq] at hst; obtain ⟨rfl, rfl⟩ := hst
      have hge := skip_ge (isIn 33 126) s (a + 1)
      have e := stand_esc s a (skip (isIn 33 126) s (a + 1)) (by omega) hgo.2.1
      have := hp.snoc e.1
      rwa [e.2] at this
  split at hst
  · simp only [Option.some.injEq, Prod.mk.injEq] at hst; obtain ⟨rfl, rfl⟩ := hst
    have e := stand_ext s 1 a (a + 1) (by omega) (by omega) (by omega) (by omega)
    have := hp.snoc e.1
    rwa [e.2] at this
  split at hst
  · simp only [Option.some.injEq, Prod.mk.injEq] at hst; obtain ⟨rfl, rfl⟩ := hst
    have e := stand_ext s 0 a (skip wV s a) (by omega) (by omega) hgo.1 hgo.2.1
    have := hp.snoc e.1
    rwa [e.2] at this
  · cases hst

theorem toksN_placed (s : ByteArray) (l : List Tk) (h : toksN s = .inl l) : PlS s l 0 s.size :=
  run_placed s (stepN s) s.size (fun a l l' b h hp hs => stepN_placed s a l l' b h hp hs) s.size [] 0 l (Nat.le_refl _) (fun a l l' b h hs => (stepN_go s a l l' b h hs).2.1) (by omega) h
theorem toksV_placed (s : ByteArray) (l : List Tk) (h : toksV s = .inl l) : PlS s l 0 s.size :=
  run_placed s (stepV s) s.size (fun a l l' b h hp hs => stepV_placed s a l l' b h hp hs) s.size [] 0 l (Nat.le_refl _) (fun a l l' b h hs => (stepV_go s a l l' b h hs).2.1) (by omega) h
theorem toksB_placed (s : ByteArray) : PlS s (toksB s) 0 s.size := by
  unfold toksB
  split
  · rename_i l h
    refine endL_placed s l s.size (Nat.le_refl _) (run_placed s (fun a l => some (stepB s a l)) s.size (fun a l l' b h hp hs => ?_) s.size [] 0 l (Nat.le_refl _) (fun a l l' b h hs => ?_) (by omega) h)
    · have := stepB_placed s a l h hp
      simp only [Option.some.injEq] at hs
      rw [hs] at this
      exact this
    · have := (stepB_go s a l h).2.1
      simp only [Option.some.injEq] at hs
      rw [hs] at this
      exact this
  · exact Nat.zero_le _
end Go.Proofs.Ytfljnhmpelpdaaa
