import Derived.Test.YtpbfkpdfodmcaaaG17
import Derived.Test.YtpbfkpdfodmcaaaG12
namespace Go.Proofs.Ytpbfkpdfodmcaaa
open Go.RowKit
set_option maxRecDepth 100000
/-- an and as it should be -/
def CleanA (p : Int × Int) : Prop := p.2 < p.1 ∧ 1 < p.2 ∧ p.1 / 2 ≠ p.2 / 2
structure Clean (l : List (Int × Int)) : Prop where
  each : ∀ p ∈ l, CleanA p
  once : l.Nodup
theorem idxP_none {l : List (Int × Int)} {x : Int × Int} (h : ¬ 0 ≤ idxP l x) : x ∉ l := fun hx => by
  unfold idxP ixI at h
  cases hf : l.findIdx? fun y => decide (x.1 = y.1 ∧ x.2 = y.2) with
  | some k => rw [hf] at h; exact h (Int.natCast_nonneg k)
  | none =>
    have := List.findIdx?_eq_none_iff.1 hf x hx
    simp at this
theorem andG_clean {first a b : Int} {l : List (Int × Int)} (ha : 0 ≤ a) (hb : 0 ≤ b) (h : Clean l) : Clean (andG first l a b).1 := by
  unfold andG
  cases hp : plainP (max a b) (min a b) with
  | some r => exact h
  | none =>
    dsimp only
    split
    · exact h
    · rename_i hi
      have hn := idxP_none hi
      have hc : CleanA (max a b, min a b) := by
        unfold plainP at hp
        split at hp
        · cases hp
        · rename_i c1
          split at hp
          · cases hp
          · rename_i c2
            refine ⟨?_, ?_, ?_⟩ <;> dsimp only <;> omega
      refine ⟨fun p hp => ?_, ?_⟩
      · rcases List.mem_append.1 hp with hp | hp
        · exact h.each p hp
        · obtain rfl := List.mem_singleton.1 hp
          exact hc
      · rw [List.nodup_append]
        refine ⟨h.once, by simp, fun x hx y hy => ?_⟩
        obtain rfl := List.mem_singleton.1 hy
        rintro rfl
        exact hn hx
theorem bldS_clean {first : Int} {l : List (Int × Int)} {keep : Nat → Bool} (hf : 1 ≤ first) (ha : AOk first l) : ∀ k, k ≤ l.length → Clean (bldS first l keep k).1
  | 0, _ => ⟨fun p hp => by simp [bldS] at hp, List.nodup_nil⟩
  | k + 1, hk => by
    obtain ⟨h1, h2, h3, h4⟩ := bldS_ok (keep := keep) hf ha k (by omega)
    have ih := bldS_clean (keep := keep) hf ha k (by omega)
    obtain ⟨x, hx⟩ : ∃ x, l[k]? = some x := ⟨_, List.getElem?_eq_getElem (by omega)⟩
    obtain ⟨⟨a1, a2⟩, a3, a4⟩ := ha k x hx
    unfold bldS
    rw [List.getD_eq_getElem?_getD, hx, Option.getD_some]
    split
    · exact andG_clean (litB_bd (x := x.1) ⟨a1, by omega⟩ h3).1 (litB_bd (x := x.2) ⟨a3, by omega⟩ h3).1 ih
    · exact ih
/-- a mark stays -/
theorem mark1_mono {m : List Bool} {x : Int} {n : Nat} (h : m.getD n false = true) : (mark1 m x).getD n false = true := by
  unfold mark1
  rw [List.getD_eq_getElem?_getD, List.getElem?_set]
  rw [List.getD_eq_getElem?_getD] at h
  split
  · split
    · rfl
    · rename_i h1 h2
      rw [List.getElem?_eq_none (by omega)] at h
      cases h
  · exact h
theorem mark1_self {m : List Bool} {x : Int} (h : (x / 2).toNat < m.length) : (mark1 m x).getD (x / 2).toNat false = true := by
  unfold mark1
  rw [List.getD_eq_getElem?_getD, List.getElem?_set, if_pos rfl, if_pos h]
  rfl
theorem mark1_other {m : List Bool} {x : Int} {n : Nat} (h : (x / 2).toNat ≠ n) : (mark1 m x).getD n false = m.getD n false := by
  unfold mark1
  rw [List.getD_eq_getElem?_getD, List.getElem?_set, if_neg h, ← List.getD_eq_getElem?_getD]
theorem fold_mono (l : List Int) {m : List Bool} {n : Nat} (h : m.getD n false = true) : (l.foldl mark1 m).getD n false = true := by
  induction l generalizing m with
  | nil => exact h
  | cons x l ih => exact ih (mark1_mono h)
theorem fold_mark (l : List Int) {m : List Bool} {x : Int} (hx : x ∈ l) (h : (x / 2).toNat < m.length) : (l.foldl mark1 m).getD (x / 2).toNat false = true := by
  induction l generalizing m with
  | nil => cases hx
  | cons y l ih =>
    rcases List.mem_cons.1 hx with rfl | hx
    · exact fold_mono l (mark1_self h)
    · exact ih hx (by rw [mark1_len]; exact h)
theorem stepG_mono {g : G} {m : List Bool} {k n : Nat} (h : m.getD n false = true) : (stepG g m k).getD n false = true := by
  unfold stepG
  split
  · exact mark1_mono (mark1_mono h)
  · exact h
theorem ledS_mono {g : G} {m : List Bool} {n : Nat} : ∀ (i j : Nat), i ≤ j → (ledS g m i).getD n false = true → (ledS g m j).getD n false = true
  | i, 0, hij, h => by
    obtain rfl : i = 0 := by omega
    exact h
  | i, j + 1, hij, h => by
    rcases Nat.lt_or_eq_of_le hij with hlt | rfl
    · exact stepG_mono (ledS_mono i j (by omega) h)
    · exact h
/-- what a later step does not reach -/
theorem ledS_back {g : G} (ha : AOk g.first g.ands) {m : List Bool} {k : Nat} (hk : k < g.ands.length) (hf : 1 ≤ g.first) : ∀ j, g.ands.length - 1 - k ≤ j → j ≤ g.ands.length → (ledS g m j).getD (g.first + k).toNat false = (ledS g m (g.ands.length - 1 - k)).getD (g.first + k).toNat false
  | 0, h, _ => by rw [show g.ands.length - 1 - k = 0 by omega]
  | j + 1, h, hj => by
    rcases Nat.lt_or_eq_of_le h with hlt | heq
    · rw [← ledS_back ha hk hf j (by omega) (by omega), ledS]
      unfold stepG
      split
      · obtain ⟨x, hx⟩ : ∃ x, g.ands[g.ands.length - 1 - j]? = some x := ⟨_, List.getElem?_eq_getElem (by omega)⟩
        obtain ⟨⟨a1, a2⟩, a3, a4⟩ := ha _ x hx
        rw [List.getD_eq_getElem?_getD (l := g.ands), hx, Option.getD_some, mark1_other (by omega), mark1_other (by omega)]
      · rfl
    · rw [heq]
/-- marks are closed -/
theorem led_closed {g : G} (hok : g.Ok) (hi : 0 ≤ g.ins) {k : Nat} {x : Int × Int} (hx : g.ands[k]? = some x) (hm : (ledL g).getD (g.first + k).toNat false = true) :
    (ledL g).getD (x.1 / 2).toNat false = true ∧ (ledL g).getD (x.2 / 2).toNat false = true := by
  have e1 : g.first = 1 + g.ins + g.next.length := rfl
  have e2 : g.top = g.ins + g.next.length + g.ands.length := rfl
  have hk := (List.getElem?_eq_some_iff.1 hx).1
  have ha := hok.aok hi
  obtain ⟨⟨a1, a2⟩, a3, a4⟩ := ha k x hx
  unfold ledL at hm ⊢
  rw [ledS_back ha hk (by omega) _ (by omega) (Nat.le_refl _)] at hm
  have hs : ledS g (led0 g) (g.ands.length - 1 - k + 1) = mark1 (mark1 (ledS g (led0 g) (g.ands.length - 1 - k)) x.1) x.2 := by
    rw [ledS, show g.ands.length - 1 - (g.ands.length - 1 - k) = k by omega, stepG, if_pos hm, List.getD_eq_getElem?_getD, hx]
    rfl
  have hl : (ledS g (led0 g) (g.ands.length - 1 - k)).length = (g.top + 1).toNat := by rw [ledS_len, led0_len]
  refine ⟨ledS_mono (g.ands.length - 1 - k + 1) _ (by omega) ?_, ledS_mono (g.ands.length - 1 - k + 1) _ (by omega) ?_⟩
  · rw [hs]
    exact mark1_mono (mark1_self (by omega))
  · rw [hs]
    exact mark1_self (by rw [mark1_len]; omega)
theorem led_ends {g : G} {x : Int} (hx : x ∈ g.next ++ g.outs) (hl : (x / 2).toNat < (g.top + 1).toNat) : (ledL g).getD (x / 2).toNat false = true := by
  unfold ledL
  refine ledS_mono 0 _ (Nat.zero_le _) ?_
  exact fold_mark _ hx (by rw [List.length_replicate]; exact hl)
def liveN (first : Int) (M : List Bool) (n : Nat) : Prop := (n : Int) < first ∨ M.getD n false = true
theorem getD_app1 {l t : List Int} {n : Nat} (h : n < l.length) : (l ++ t).getD n 0 = l.getD n 0 := by
  rw [List.getD_eq_getElem?_getD, List.getElem?_append_left h, ← List.getD_eq_getElem?_getD]
theorem getD_app2 {l : List Int} {x : Int} : (l ++ [x]).getD l.length 0 = x := by
  rw [List.getD_eq_getElem?_getD, List.getElem?_append_right (Nat.le_refl _), Nat.sub_self]
  rfl
theorem litB_app {to t : List Int} {x : Int} (h : 0 ≤ x ∧ x / 2 < to.length) : litB (to ++ t) x = litB to x := by
  unfold litB
  rw [getD_app1 (by omega)]
theorem to0_get {n i : Nat} (h : i < n) : (to0 n).getD i 0 = 2 * (i : Int) := by
  unfold to0
  rw [List.getD_eq_getElem?_getD, List.getElem?_map, List.getElem?_range h]
  rfl
/-- how numbers come to new ones -/
structure RI (g : G) (M : List Bool) (k : Nat) (r : List (Int × Int) × List Int) : Prop where
  len : r.2.length = g.first.toNat + k
  even : ∀ n, n < r.2.length → r.2.getD n 0 % 2 = 0 ∧ 0 ≤ r.2.getD n 0
  up : ∀ m n, m < n → n < r.2.length → liveN g.first M m → r.2.getD m 0 + 2 ≤ r.2.getD n 0
  top : ∀ m, m < r.2.length → liveN g.first M m → r.2.getD m 0 + 2 ≤ 2 * (g.first + r.1.length)
  mem : ∀ q ∈ r.1, ∃ (j : Nat) (p : Int × Int), j < k ∧ g.ands[j]? = some p ∧ M.getD (g.first + j).toNat false = true ∧ q = (litB r.2 p.1, litB r.2 p.2)
theorem rclS_ri {g : G} {M : List Bool} (hf : 1 ≤ g.first) (ha : AOk g.first g.ands) : ∀ k, k ≤ g.ands.length → RI g M k (rclS g M k)
  | 0, _ => by
    have hl : (to0 g.first.toNat).length = g.first.toNat := to0_len _
    refine ⟨hl, fun n hn => ?_, fun m n hmn hn _ => ?_, fun m hm _ => ?_, fun q hq => by cases hq⟩
    · change n < (to0 g.first.toNat).length at hn
      show (to0 g.first.toNat).getD n 0 % 2 = 0 ∧ 0 ≤ (to0 g.first.toNat).getD n 0
      rw [to0_get (by omega)]
      omega
    · change n < (to0 g.first.toNat).length at hn
      show (to0 g.first.toNat).getD m 0 + 2 ≤ (to0 g.first.toNat).getD n 0
      rw [to0_get (by omega), to0_get (by omega)]
      omega
    · change m < (to0 g.first.toNat).length at hm
      show (to0 g.first.toNat).getD m 0 + 2 ≤ 2 * (g.first + (([] : List (Int × Int)).length : Nat))
      rw [to0_get (by omega)]
      simp only [List.length_nil]
      omega
  | k + 1, hk => by
    obtain ⟨h1, h2, h3, h4, h5⟩ := rclS_ri (M := M) hf ha k (by omega)
    obtain ⟨x, hx⟩ : ∃ x, g.ands[k]? = some x := ⟨_, List.getElem?_eq_getElem (by omega)⟩
    obtain ⟨⟨a1, a2⟩, a3, a4⟩ := ha k x hx
    unfold rclS
    rw [List.getD_eq_getElem?_getD (l := g.ands), hx, Option.getD_some]
    generalize rclS g M k = r at *
    have hlen : (r.2 ++ [2 * (g.first + (r.1.length : Int))]).length = g.first.toNat + (k + 1) := by rw [List.length_append, List.length_singleton, h1]; omega
    have hev : ∀ n, n < (r.2 ++ [2 * (g.first + (r.1.length : Int))]).length → (r.2 ++ [2 * (g.first + (r.1.length : Int))]).getD n 0 % 2 = 0 ∧ 0 ≤ (r.2 ++ [2 * (g.first + (r.1.length : Int))]).getD n 0 := fun n hn => by
      rcases Nat.lt_or_ge n r.2.length with h | h
      · rw [getD_app1 h]; exact h2 n h
      · rw [show n = r.2.length by rw [List.length_append, List.length_singleton] at hn; omega, getD_app2]
        omega
    have hup : ∀ m n, m < n → n < (r.2 ++ [2 * (g.first + (r.1.length : Int))]).length → liveN g.first M m → (r.2 ++ [2 * (g.first + (r.1.length : Int))]).getD m 0 + 2 ≤ (r.2 ++ [2 * (g.first + (r.1.length : Int))]).getD n 0 := fun m n hmn hn hl => by
      rcases Nat.lt_or_ge n r.2.length with h | h
      · rw [getD_app1 h, getD_app1 (by omega)]; exact h3 m n hmn h hl
      · rw [show n = r.2.length by rw [List.length_append, List.length_singleton] at hn; omega, getD_app2, getD_app1 (by rw [List.length_append, List.length_singleton] at hn; omega)]
        exact h4 m (by rw [List.length_append, List.length_singleton] at hn; omega) hl
    have hmem : ∀ q ∈ r.1, ∃ (j : Nat) (p : Int × Int), j < k + 1 ∧ g.ands[j]? = some p ∧ M.getD (g.first + j).toNat false = true ∧ q = (litB (r.2 ++ [2 * (g.first + (r.1.length : Int))]) p.1, litB (r.2 ++ [2 * (g.first + (r.1.length : Int))]) p.2) := fun q hq => by
      obtain ⟨j, p, j1, j2, j3, rfl⟩ := h5 q hq
      obtain ⟨⟨b1, b2⟩, b3, b4⟩ := ha j p j2
      exact ⟨j, p, by omega, j2, j3, by rw [litB_app ⟨b1, by omega⟩, litB_app ⟨b3, by omega⟩]⟩
    have hnum : r.2.length = (g.first + k).toNat := by omega
    by_cases hm : M.getD (g.first + k).toNat false = true
    · rw [if_pos hm]
      refine ⟨hlen, hev, hup, fun m hm2 hl => ?_, fun q hq => ?_⟩
      · show _ ≤ 2 * (g.first + (((r.1 ++ [_]).length : Nat) : Int))
        rw [List.length_append, List.length_singleton]
        change m < (r.2 ++ [2 * (g.first + (r.1.length : Int))]).length at hm2
        show (r.2 ++ [2 * (g.first + (r.1.length : Int))]).getD m 0 + 2 ≤ _
        rcases Nat.lt_or_ge m r.2.length with h | h
        · rw [getD_app1 h]
          have := h4 m h hl
          omega
        · rw [show m = r.2.length by rw [List.length_append, List.length_singleton] at hm2; omega, getD_app2]
          omega
      · rcases List.mem_append.1 hq with hq | hq
        · exact hmem q hq
        · obtain rfl := List.mem_singleton.1 hq
          exact ⟨k, x, by omega, hx, hm, rfl⟩
    · rw [if_neg hm]
      refine ⟨hlen, hev, hup, fun m hm2 hl => ?_, hmem⟩
      change m < (r.2 ++ [2 * (g.first + (r.1.length : Int))]).length at hm2
      show (r.2 ++ [2 * (g.first + (r.1.length : Int))]).getD m 0 + 2 ≤ 2 * (g.first + (r.1.length : Int))
      rcases Nat.lt_or_ge m r.2.length with h | h
      · rw [getD_app1 h]; exact h4 m h hl
      · have hmk : m = (g.first + k).toNat := by rw [List.length_append, List.length_singleton] at hm2; omega
        rcases hl with hl | hl
        · omega
        · rw [hmk] at hl
          exact absurd hl hm
theorem litB_parts {to : List Int} {x : Int} (_ : 0 ≤ x) (he : to.getD (x / 2).toNat 0 % 2 = 0) : litB to x = to.getD (x / 2).toNat 0 + x % 2 := by
  unfold litB xr
  split
  · omega
  · first
    | omega
    | (rw [if_pos he]; omega)
theorem live_of {g : G} {M : List Bool} (h : ∀ (k : Nat) x, g.ands[k]? = some x → M.getD (g.first + k).toNat false = true → M.getD (x.1 / 2).toNat false = true ∧ M.getD (x.2 / 2).toNat false = true) {k : Nat} {x : Int × Int} (hx : g.ands[k]? = some x) (hm : M.getD (g.first + k).toNat false = true) :
    liveN g.first M (x.1 / 2).toNat ∧ liveN g.first M (x.2 / 2).toNat := ⟨.inr (h k x hx hm).1, .inr (h k x hx hm).2⟩
structure EQ (g : G) (M : List Bool) (s r : List (Int × Int) × List Int) : Prop where
  ands : s.1 = r.1
  len : s.2.length = r.2.length
  to : ∀ m, m < r.2.length → liveN g.first M m → s.2.getD m 0 = r.2.getD m 0
theorem plain_none {u v : Int} (h : CleanA (u, v)) : plainP (max u v) (min u v) = none ∧ max u v = u ∧ min u v = v := by
  obtain ⟨h1, h2, h3⟩ := h
  dsimp only at h1 h2 h3
  refine ⟨?_, by omega, by omega⟩
  rw [Int.max_eq_left (by omega), Int.min_eq_right (by omega)]
  unfold plainP
  rw [if_neg (by omega), if_neg (by omega)]
theorem eq_step {g : G} {M : List Bool} (hf : 1 ≤ g.first) (ha : AOk g.first g.ands) (hc : Clean g.ands) (hM : ∀ (k : Nat) x, g.ands[k]? = some x → M.getD (g.first + k).toNat false = true → M.getD (x.1 / 2).toNat false = true ∧ M.getD (x.2 / 2).toNat false = true) :
    ∀ k, k ≤ g.ands.length → EQ g M (bldS g.first g.ands (fun k => M.getD (g.first + k).toNat false) k) (rclS g M k)
  | 0, _ => ⟨rfl, rfl, fun _ _ _ => rfl⟩
  | k + 1, hk => by
    obtain ⟨i1, i2, i3⟩ := eq_step hf ha hc hM k (by omega)
    obtain ⟨h1, h2, h3, h4, h5⟩ := rclS_ri (M := M) hf ha k (by omega)
    obtain ⟨x, hx⟩ : ∃ x, g.ands[k]? = some x := ⟨_, List.getElem?_eq_getElem (by omega)⟩
    obtain ⟨⟨a1, a2⟩, a3, a4⟩ := ha k x hx
    unfold bldS rclS
    rw [List.getD_eq_getElem?_getD (l := g.ands), hx, Option.getD_some]
    generalize rclS g M k = r at *
    generalize bldS g.first g.ands (fun k => M.getD (g.first + k).toNat false) k = s at *
    obtain ⟨s1, s2⟩ := s
    obtain ⟨r1, r2⟩ := r
    dsimp only at *
    subst i1
    have hnum : r2.length = (g.first + k).toNat := by omega
    by_cases hm : M.getD (g.first + k).toNat false = true
    · rw [if_pos hm, if_pos hm]
      obtain ⟨v1, v2⟩ := live_of hM hx hm
      have q1 : litB s2 x.1 = litB r2 x.1 := by unfold litB; rw [i3 _ (by omega) v1]
      have q2 : litB s2 x.2 = litB r2 x.2 := by unfold litB; rw [i3 _ (by omega) v2]
      have p1 := litB_parts (to := r2) a1 (h2 _ (by omega)).1
      have p2 := litB_parts (to := r2) a3 (h2 _ (by omega)).1
      obtain ⟨w1, w2, w3⟩ := hc.each x (List.mem_of_getElem? hx)
      have hcl : CleanA (litB r2 x.1, litB r2 x.2) := by
        have u1 := h3 (x.2 / 2).toNat (x.1 / 2).toNat (by omega) (by omega) v2
        have u2 := h3 0 (x.2 / 2).toNat (by omega) (by omega) (.inl (by omega))
        have n1 := h2 (x.1 / 2).toNat (by omega)
        have n2 := h2 (x.2 / 2).toNat (by omega)
        have n0 := h2 0 (by omega)
        refine ⟨?_, ?_, ?_⟩ <;> dsimp only <;> omega
      have hni : ¬ 0 ≤ idxP s1 (litB r2 x.1, litB r2 x.2) := fun hi => by
        obtain ⟨j, p, j1, j2, j3, je⟩ := h5 _ (List.mem_of_getElem? (idxP_get hi))
        obtain ⟨⟨b1, b2⟩, b3, b4⟩ := ha j p j2
        obtain ⟨y1, y2⟩ := live_of hM j2 j3
        have t1 := litB_parts (to := r2) b1 (h2 _ (by omega)).1
        have t2 := litB_parts (to := r2) b3 (h2 _ (by omega)).1
        injection je with je1 je2
        have inj : ∀ c d : Int, 0 ≤ c → 0 ≤ d → (c / 2).toNat < r2.length → (d / 2).toNat < r2.length → liveN g.first M (c / 2).toNat → liveN g.first M (d / 2).toNat → r2.getD (c / 2).toNat 0 + c % 2 = r2.getD (d / 2).toNat 0 + d % 2 → c = d := fun c d hc0 hd0 hcl hdl lc ld he => by
          have n1 := (h2 _ hcl).1
          have n2 := (h2 _ hdl).1
          rcases Nat.lt_trichotomy (c / 2).toNat (d / 2).toNat with h | h | h
          · have := h3 _ _ h hdl lc
            omega
          · rw [h] at he
            omega
          · have := h3 _ _ h hcl ld
            omega
        have f1 := inj x.1 p.1 a1 b1 (by omega) (by omega) v1 y1 (by omega)
        have f2 := inj x.2 p.2 a3 b3 (by omega) (by omega) v2 y2 (by omega)
        have hxp : x = p := Prod.ext f1 f2
        subst hxp
        have hjk := (List.getElem?_inj (List.getElem?_eq_some_iff.1 j2).1 hc.once).1 (j2.trans hx.symm)
        omega
      rw [q1, q2]
      have hand : andG g.first s1 (litB r2 x.1) (litB r2 x.2) = (s1 ++ [(litB r2 x.1, litB r2 x.2)], 2 * (g.first + s1.length)) := by
        obtain ⟨z1, z2, z3⟩ := plain_none hcl
        unfold andG
        rw [z1]
        dsimp only
        rw [z2, z3, if_neg hni]
      rw [hand]
      refine ⟨?_, ?_, fun m hm2 hl => ?_⟩
      · show s1 ++ _ = s1 ++ _
        rw [litB_app ⟨a1, by omega⟩, litB_app ⟨a3, by omega⟩]
      · show (s2 ++ [_]).length = (r2 ++ [_]).length
        simp [i2]
      · change m < (r2 ++ [_]).length at hm2
        rw [List.length_append, List.length_singleton] at hm2
        show (s2 ++ _).getD m 0 = (r2 ++ _).getD m 0
        rcases Nat.lt_or_ge m r2.length with h | h
        · rw [getD_app1 (by omega), getD_app1 h]
          exact i3 m h hl
        · have : m = r2.length := by omega
          subst this
          rw [getD_app2]
          conv => lhs; rw [← i2]
          rw [getD_app2]
    · rw [if_neg hm, if_neg hm]
      refine ⟨rfl, ?_, fun m hm2 hl => ?_⟩
      · show (s2 ++ [_]).length = (r2 ++ [_]).length
        simp [i2]
      · change m < (r2 ++ [_]).length at hm2
        rw [List.length_append, List.length_singleton] at hm2
        show (s2 ++ _).getD m 0 = (r2 ++ _).getD m 0
        rcases Nat.lt_or_ge m r2.length with h | h
        · rw [getD_app1 (by omega), getD_app1 h]
          exact i3 m h hl
        · exfalso
          have hmk : m = (g.first + k).toNat := by omega
          rcases hl with hl | hl
          · omega
          · rw [hmk] at hl
            exact hm hl
theorem close_eq {g : G} (hok : g.Ok) (hi : 0 ≤ g.ins) (hc : Clean g.ands) : closeG g = rcloseG g := by
  have e1 : g.first = 1 + g.ins + g.next.length := rfl
  have e2 : g.top = g.ins + g.next.length + g.ands.length := rfl
  have hE := eq_step (M := ledL g) (by omega) (hok.aok hi) hc (fun k x hx hm => led_closed hok hi hx hm) g.ands.length (Nat.le_refl _)
  have hR := rclS_ri (M := ledL g) (by omega) (hok.aok hi) g.ands.length (Nat.le_refl _)
  unfold closeG rcloseG bldG
  obtain ⟨h1, h2, h3⟩ := hE
  have hl : ∀ x ∈ g.next ++ g.outs, litB (bldS g.first g.ands (fun k => (ledL g).getD (g.first + k).toNat false) g.ands.length).2 x = litB (rclS g (ledL g) g.ands.length).2 x := fun x hx => by
    have hx2 : 0 ≤ x ∧ x ≤ 2 * g.top + 1 := (List.mem_append.1 hx).elim (fun e => of_decide_eq_true (hok.n x e)) fun e => of_decide_eq_true (hok.o x e)
    unfold litB
    rw [h3 _ (by rw [hR.len]; omega) (.inr (led_ends hx (by omega)))]
  rw [h1, List.map_congr_left fun x hx => hl x (List.mem_append_left _ hx), List.map_congr_left fun x hx => hl x (List.mem_append_right _ hx)]
theorem norm_eq {g : G} (hok : g.Ok) (hi : 0 ≤ g.ins) : normG g = rcloseG (bldG g fun _ => true) := by
  obtain ⟨n1, _, _⟩ := bldG_ok (fun _ => true) hok hi
  have hf : 1 ≤ g.first := by unfold G.first; omega
  exact close_eq n1 hi (bldS_clean hf (hok.aok hi) _ (Nat.le_refl _))
end Go.Proofs.Ytpbfkpdfodmcaaa
