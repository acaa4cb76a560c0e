/- Numbers as bytes, plain: what is put is got, and only that. -/
import Derived.Test.YtkemaaohmfdhbaaDoorPlain
namespace Go.Proofs.YtkemaaohmfdhbaaDoor
open Go.Lib

theorem dec_small {n : Nat} (h : n < 10) : decDigits n = [UInt8.ofNat (48 + n)] := by rw [decDigits, dif_pos h]
theorem dec_big {n : Nat} (h : ¬ n < 10) : decDigits n = decDigits (n / 10) ++ [UInt8.ofNat (48 + n % 10)] := by rw [decDigits, dif_neg h]
theorem isDg_of {k : Nat} (h : k < 10) : isDg (UInt8.ofNat (48 + k)) = true := by
  simp only [isDg, decide_eq_true_eq]
  rw [UInt8.toNat_ofNat']
  omega
theorem ofDg {k : Nat} (h : k < 10) : (UInt8.ofNat (48 + k)).toNat - 48 = k := by rw [UInt8.toNat_ofNat']; omega
theorem toDg {c : UInt8} (h : isDg c = true) : UInt8.ofNat (48 + (c.toNat - 48)) = c := by
  simp only [isDg, decide_eq_true_eq] at h
  rw [show 48 + (c.toNat - 48) = c.toNat from by omega]
  simp
theorem dec_dg : ∀ (n : Nat), ∀ c ∈ decDigits n, isDg c = true := by
  intro n
  induction n using Nat.strongRecOn with
  | _ n ih =>
    intro c hc
    by_cases h : n < 10
    · rw [dec_small h] at hc
      obtain rfl := List.mem_singleton.1 hc
      exact isDg_of h
    · rw [dec_big h] at hc
      rcases List.mem_append.1 hc with hc | hc
      · exact ih (n / 10) (by omega) c hc
      · obtain rfl := List.mem_singleton.1 hc
        exact isDg_of (by omega)
theorem dec_val : ∀ (n : Nat), dval (decDigits n) = n := by
  intro n
  induction n using Nat.strongRecOn with
  | _ n ih =>
    by_cases h : n < 10
    · rw [dec_small h]
      have := ofDg h
      simp only [dval, List.foldl_cons, List.foldl_nil]
      omega
    · rw [dec_big h, dval_snoc, ih (n / 10) (by omega), ofDg (by omega)]
      omega
theorem dec_len : ∀ (k n : Nat), n < 10 ^ (k + 1) → (decDigits n).length ≤ k + 1
  | 0, n, h => by rw [dec_small (by simpa using h)]; simp
  | k + 1, n, h => by
    by_cases h1 : n < 10
    · rw [dec_small h1]; simp
    · rw [dec_big h1, List.length_append]
      have := dec_len k (n / 10) (by rw [Nat.pow_succ] at h; omega)
      simp; omega
theorem dec_pos (n : Nat) : 1 ≤ (decDigits n).length := by
  by_cases h1 : n < 10
  · rw [dec_small h1]; simp
  · rw [dec_big h1]; simp
theorem dec_head : ∀ (n : Nat), 0 < n → (decDigits n).head? ≠ some 48 := by
  intro n
  induction n using Nat.strongRecOn with
  | _ n ih =>
    intro h0
    by_cases h : n < 10
    · rw [dec_small h]
      intro he
      have := congrArg UInt8.toNat (Option.some.inj he)
      rw [UInt8.toNat_ofNat'] at this
      simp at this
      omega
    · rw [dec_big h, List.head?_append]
      have hp := dec_pos (n / 10)
      have := ih (n / 10) (by omega) (by omega)
      cases hh : (decDigits (n / 10)).head? with
      | none => rw [List.head?_eq_none_iff] at hh; rw [hh] at hp; simp at hp
      | some x => rw [hh] at this; simpa using this

/-- no digit follows -/
def noDg (l : List UInt8) : Prop := ∀ c, l.head? = some c → isDg c = false
theorem run_app (a r : List UInt8) (ha : ∀ c ∈ a, isDg c = true) (hr : noDg r) : run (a ++ r) = a := by
  induction a with
  | nil =>
    cases r with
    | nil => rfl
    | cons c r =>
      have := hr c rfl
      simp [run, this]
  | cons c a ih =>
    have h1 := ha c (by simp)
    have h2 := ih (fun d hd => ha d (by simp [hd]))
    unfold run at h2 ⊢
    rw [List.cons_append, List.takeWhile_cons, if_pos h1, h2]

theorem getV_dec (n : Nat) (r : List UInt8) (hn : n ≤ 2147483647) (hr : noDg r) : getV (decDigits n ++ r) = some (n, (decDigits n).length) := by
  unfold getV
  rw [run_app _ _ (dec_dg n) hr, dec_val]
  have hp := dec_pos n
  have hl := dec_len 9 n (by omega)
  have hm : ¬ most < n := by unfold most; omega
  rw [if_neg]
  rintro (h | h | ⟨h, h'⟩ | h)
  · omega
  · omega
  · by_cases h0 : n = 0
    · subst h0; rw [dec_small (by omega)] at h; simp at h
    · have := dec_head n (by omega)
      rw [List.head?_append] at h'
      cases hh : (decDigits n).head? with
      | none => rw [List.head?_eq_none_iff] at hh; rw [hh] at hp; simp at hp
      | some x => rw [hh] at h' this; exact this (by simpa using h')
  · exact hm h

theorem dval_pos : ∀ (l : List UInt8), l ≠ [] → (∀ c ∈ l, isDg c = true) → l.head? ≠ some 48 → 1 ≤ dval l
  | [], h, _, _ => absurd rfl h
  | c :: l, _, hd, hh => by
    have h1 := hd c (by simp)
    simp only [isDg, decide_eq_true_eq] at h1
    have h2 : c.toNat ≠ 48 := fun e => hh (by have hc : c = 48 := UInt8.toNat_inj.1 (by simpa using e); rw [hc]; rfl)
    have h3 := dval_mono [c] l
    have h4 : dval [c] = c.toNat - 48 := by simp [dval]
    rw [List.singleton_append] at h3
    omega

theorem dec_of_val : ∀ (k : Nat) (l : List UInt8), l.length = k + 1 → (∀ c ∈ l, isDg c = true) → (1 < l.length → l.head? ≠ some 48) → decDigits (dval l) = l
  | 0, l, hl, hd, _ => by
    match l, hl with
    | [c], _ =>
      have h1 := hd c (by simp)
      have h1' := h1
      simp only [isDg, decide_eq_true_eq] at h1'
      have h4 : dval [c] = c.toNat - 48 := by simp [dval]
      rw [h4, dec_small (by omega), toDg h1]
  | k + 1, l, hl, hd, hh => by
    have hne : l ≠ [] := fun e => by rw [e] at hl; simp at hl
    obtain ⟨m, c, rfl⟩ : ∃ m c, l = m ++ [c] := ⟨l.dropLast, l.getLast hne, (List.dropLast_concat_getLast hne).symm⟩
    have hml : m.length = k + 1 := by simpa using hl
    have h1 := hd c (by simp)
    have h1' := h1
    simp only [isDg, decide_eq_true_eq] at h1'
    have hm0 : m ≠ [] := fun e => by rw [e] at hml; simp at hml
    have hmh : m.head? ≠ some 48 := by
      have := hh (by simp; omega)
      rw [List.head?_append] at this
      cases hx : m.head? with
      | none => rw [List.head?_eq_none_iff] at hx; exact absurd hx hm0
      | some x => rw [hx] at this; simpa using this
    have hp := dval_pos m hm0 (fun d h => hd d (by simp [h])) hmh
    have ih := dec_of_val k m hml (fun d h => hd d (by simp [h])) (fun _ => hmh)
    rw [dval_snoc, dec_big (by omega), show (10 * dval m + (c.toNat - 48)) / 10 = dval m from by omega, ih, show (10 * dval m + (c.toNat - 48)) % 10 = c.toNat - 48 from by omega, toDg h1]

theorem getV_put {l : List UInt8} {n k : Nat} (h : getV l = some (n, k)) : n ≤ 2147483647 ∧ k ≤ l.length ∧ decDigits n = l.take k := by
  unfold getV at h
  split at h
  · cases h
  rename_i hno
  obtain ⟨rfl, rfl⟩ : dval (run l) = n ∧ (run l).length = k := by simpa using h
  have h1 : ¬ (run l).length = 0 := fun e => hno (.inl e)
  have h2 : ¬ most < dval (run l) := fun e => hno (.inr (.inr (.inr e)))
  refine ⟨by unfold most at h2; omega, run_le l, ?_⟩
  rw [← run_take]
  refine dec_of_val ((run l).length - 1) _ (by omega) (run_dg l) (fun hlt he => hno (.inr (.inr (.inl ⟨hlt, ?_⟩))))
  rw [run_take] at he
  rw [List.head?_take] at he
  split at he
  · cases he
  · exact he

/-! groups -/
theorem gval_grp : ∀ (n : Nat), gval (grp n) = n := by
  intro n
  induction n using Nat.strongRecOn with
  | _ n ih =>
    by_cases h : n < 128
    · rw [grp_small h]
      simp only [gval, UInt8.toNat_ofNat']
      omega
    · rw [grp_big h]
      simp only [gval, UInt8.toNat_ofNat']
      rw [ih (n / 128) (by omega)]
      omega

/-- l are groups, each followed by another one; c is the last one -/
theorem grp_split : ∀ (n : Nat), ∃ l c, grp n = l ++ [c] ∧ (∀ b ∈ l, ¬ b.toNat < 128) ∧ c.toNat < 128 ∧ (l ≠ [] → c ≠ 0) := by
  intro n
  induction n using Nat.strongRecOn with
  | _ n ih =>
    by_cases h : n < 128
    · exact ⟨[], UInt8.ofNat n, by rw [grp_small h]; rfl, by simp, by rw [UInt8.toNat_ofNat']; omega, by simp⟩
    · obtain ⟨l, c, e, h1, h2, h3⟩ := ih (n / 128) (by omega)
      refine ⟨UInt8.ofNat (n % 128 + 128) :: l, c, by rw [grp_big h, e]; rfl, ?_, h2, fun _ hc => ?_⟩
      · intro b hb
        rcases List.mem_cons.1 hb with rfl | hb
        · rw [UInt8.toNat_ofNat']; omega
        · exact h1 b hb
      · by_cases hl : l = []
        · subst hl; subst hc
          have := congrArg gval e
          rw [gval_grp] at this
          simp [gval] at this
          omega
        · exact h3 hl hc

theorem lastG_app (l : List UInt8) (c : UInt8) (r : List UInt8) (h1 : ∀ b ∈ l, ¬ b.toNat < 128) (h2 : c.toNat < 128) : lastG (l ++ c :: r) = some l.length := by
  refine lastG_some _ _ (by simp) ?_ fun j hj => ?_
  · simpa using h2
  · rw [List.getElem_append_left hj]
    exact h1 _ (List.getElem_mem _)

theorem undV_grp (n : Nat) (r : List UInt8) (hn : n ≤ 2147483647) : undV (grp n ++ r) = (n, (grp n).length, 0) := by
  obtain ⟨l, c, e, h1, h2, h3⟩ := grp_split n
  have hl := grp_len 4 n (by omega)
  have hv := gval_grp n
  rw [e] at hl hv ⊢
  unfold undV
  rw [List.append_assoc, List.singleton_append, lastG_app l c r h1 h2]
  simp only
  have ht : (l ++ c :: r).take (l.length + 1) = l ++ [c] := by
    rw [List.take_append, List.take_of_length_le (by omega)]
    simp
  simp only [List.length_append, List.length_singleton] at hl
  rw [ht, hv, if_neg]
  · simp
  · rintro (h | ⟨h, h'⟩ | h)
    · omega
    · rw [List.getElem?_append_right (Nat.le_refl _)] at h'
      simp at h'
      exact h3 (fun e => by rw [e] at h; simp at h) h'
    · unfold most at h; omega

theorem grp_of_val : ∀ (l : List UInt8) (c : UInt8), (∀ b ∈ l, ¬ b.toNat < 128) → c.toNat < 128 → (l ≠ [] → c ≠ 0) → grp (gval (l ++ [c])) = l ++ [c]
  | [], c, _, h2, _ => by
    have : gval ([] ++ [c]) = c.toNat := by simp [gval]; omega
    rw [this, grp_small h2]; simp
  | b :: l, c, h1, h2, h3 => by
    have hb := h1 b (by simp)
    have hb2 := b.toNat_lt
    have ih := grp_of_val l c (fun d h => h1 d (by simp [h])) h2 (fun _ => h3 (by simp))
    have hc : c ≠ 0 := h3 (by simp)
    have hp : 1 ≤ gval (l ++ [c]) := by
      rcases Nat.eq_zero_or_pos (gval (l ++ [c])) with h0 | h0
      · exfalso
        rw [h0, grp_small (by omega)] at ih
        have hl : l = [] := by
          have := congrArg List.length ih
          simp at this
          cases l with
          | nil => rfl
          | cons _ _ => simp at this
        subst hl
        simp at ih
        exact hc ih.symm
      · exact h0
    have hv : gval (b :: l ++ [c]) = 128 * gval (l ++ [c]) + b.toNat % 128 := rfl
    rw [hv, grp_big (by omega), show (128 * gval (l ++ [c]) + b.toNat % 128) / 128 = gval (l ++ [c]) from by omega, ih, show (128 * gval (l ++ [c]) + b.toNat % 128) % 128 + 128 = b.toNat from by omega]
    simp

theorem lastG_is {l : List UInt8} {e : Nat} (h : lastG l = some e) : ∃ m c r, l = m ++ c :: r ∧ m.length = e ∧ (∀ b ∈ m, ¬ b.toNat < 128) ∧ c.toNat < 128 := by
  unfold lastG at h
  rw [List.findIdx?_eq_some_iff_getElem] at h
  obtain ⟨hlt, h1, h2⟩ := h
  refine ⟨l.take e, l[e], l.drop (e + 1), ?_, by simp; omega, ?_, by simpa using h1⟩
  · rw [← List.drop_eq_getElem_cons hlt, List.take_append_drop]
  · intro b hb
    obtain ⟨j, hj, rfl⟩ := List.mem_iff_getElem.1 hb
    rw [List.getElem_take]
    have hje : j < e := by simp at hj; omega
    simpa using h2 j hje

theorem undV_put {l : List UInt8} {n k : Nat} (h : undV l = (n, k, 0)) : n ≤ 2147483647 ∧ k ≤ l.length ∧ grp n = l.take k := by
  unfold undV at h
  split at h
  · simp at h
  · rename_i e he
    obtain ⟨m, c, r, rfl, rfl, h1, h2⟩ := lastG_is he
    have ht : (m ++ c :: r).take (m.length + 1) = m ++ [c] := by rw [List.take_append, List.take_of_length_le (by omega)]; simp
    rw [ht] at h
    split at h
    · simp at h
    · rename_i hno
      simp only [Prod.mk.injEq] at h
      obtain ⟨rfl, rfl, _⟩ := h
      refine ⟨?_, by simp, ?_⟩
      · have : ¬ most < gval (m ++ [c]) := fun e => hno (.inr (.inr e))
        unfold most at this; omega
      · rw [ht]
        refine grp_of_val m c h1 h2 (fun hm hc => hno (.inr (.inl ⟨?_, ?_⟩)))
        · exact List.length_pos_iff.2 hm
        · rw [List.getElem?_append_right (Nat.le_refl _), hc]; simp
end Go.Proofs.YtkemaaohmfdhbaaDoor
