import Derived.Test.YtfflfmpkjcomgaaH21
namespace Go.Proofs.Ytfflfmpkjcomgaa
open Go.RowKit
set_option maxRecDepth 100000
theorem left_iff {on c : List Int} {x : Int} : x ∈ leftF on c ↔ x ∈ c ∧ onF on (0 - x) = false := by
  have key : ∀ (c l : List Int), x ∈ c.foldl (fun l y => if y ∈ l ∨ onF on (0 - y) = true then l else l ++ [y]) l ↔ x ∈ l ∨ (x ∈ c ∧ onF on (0 - x) = false) := by
    intro c
    induction c with
    | nil => intro l; simp
    | cons y c ih =>
      intro l
      rw [List.foldl_cons]
      split
      · rename_i h
        rw [ih, List.mem_cons]
        constructor
        · rintro (h1 | ⟨h1, h2⟩)
          · exact .inl h1
          · exact .inr ⟨.inr h1, h2⟩
        · rintro (h1 | ⟨rfl | h1, h2⟩)
          · exact .inl h1
          · rcases h with h | h
            · exact .inl h
            · rw [h] at h2; cases h2
          · exact .inr ⟨h1, h2⟩
      · rename_i h
        obtain ⟨_, h'⟩ := not_or.1 h
        rw [ih, List.mem_append, List.mem_singleton, List.mem_cons]
        constructor
        · rintro ((h1 | rfl) | ⟨h1, h2⟩)
          · exact .inl h1
          · exact .inr ⟨.inl rfl, by simpa using h'⟩
          · exact .inr ⟨.inr h1, h2⟩
        · rintro (h1 | ⟨rfl | h1, h2⟩)
          · exact .inl (.inl h1)
          · exact .inl (.inr rfl)
          · exact .inr ⟨h1, h2⟩
  exact (key c []).trans (by simp)
theorem onF_let {on : List Int} {x y : Int} (hx : InT on x) (hx0 : x ≠ 0) (hy0 : y ≠ 0) : onF (letF on x) y = if y = x then true else if y = 0 - x then false else onF on y := by
  obtain ⟨h1, h2⟩ := hx
  unfold onF letF
  by_cases hxn : x < 0
  · rw [if_pos hxn]
    by_cases hyn : y < 0
    · rw [if_pos hyn, if_pos hyn, List.getD_eq_getElem?_getD, List.getElem?_set, List.getD_eq_getElem?_getD]
      by_cases e : y = x
      · subst e
        rw [if_pos rfl, if_pos (by omega), if_pos rfl]
        rfl
      · rw [if_neg (by omega), if_neg e, if_neg (by omega)]
    · rw [if_neg hyn, if_neg hyn, List.getD_eq_getElem?_getD, List.getElem?_set, List.getD_eq_getElem?_getD, if_neg (by omega : ¬ y = x)]
      by_cases e : y = 0 - x
      · subst e
        rw [if_pos rfl, if_pos (by omega), if_pos rfl]
        rfl
      · rw [if_neg (by omega), if_neg e]
  · rw [if_neg hxn]
    by_cases hyn : y < 0
    · rw [if_pos hyn, if_pos hyn, List.getD_eq_getElem?_getD, List.getElem?_set, List.getD_eq_getElem?_getD, if_neg (by omega : ¬ y = x)]
      by_cases e : y = 0 - x
      · subst e
        rw [if_pos (by omega), if_pos (by omega), if_pos rfl]
        rfl
      · rw [if_neg (by omega), if_neg e]
    · rw [if_neg hyn, if_neg hyn, List.getD_eq_getElem?_getD, List.getElem?_set, List.getD_eq_getElem?_getD]
      by_cases e : y = x
      · subst e
        rw [if_pos rfl, if_pos (by omega), if_pos rfl]
        rfl
      · rw [if_neg (by omega), if_neg e, if_neg (by omega)]
theorem onF_zero {n : Nat} {y : Int} : onF (List.replicate n 0) y = false := by
  unfold onF
  have : ∀ k, (List.replicate n (0 : Int)).getD k 0 = 0 := fun k => by
    rw [List.getD_eq_getElem?_getD, List.getElem?_replicate]
    split <;> rfl
  split <;> rw [this] <;> decide
/-- what the table says is sound -/
structure SndT (cs : List (List Int)) (v : Int) (G : Int → Prop) (s : List Int × Bool) : Prop where
  ln : (s.1.length : Int) = v + 1
  un : s.2 = false → ∀ x, LitV v x → onF s.1 x = true → Un cs G x
  cf : s.2 = true → Confl cs G
theorem sndT_one {cs : List (List Int)} {v : Int} {G : Int → Prop} {s : List Int × Bool} {c : List Int} (h : SndT cs v G s) (hs : s.2 = false) (hc : c ∈ cs) (hl : ∀ x ∈ c, LitV v x) : SndT cs v G (onePF s c) := by
  obtain ⟨h1, h2, h3⟩ := h
  have h2 := h2 hs
  have hw := @left_iff s.1 c
  have turned : ∀ y ∈ c, y ∉ leftF s.1 c → Un cs G (0 - y) := fun y hy hn => by
    refine h2 _ (hl y hy).neg ?_
    cases e : onF s.1 (0 - y) with
    | true => rfl
    | false => exact absurd (hw.2 ⟨hy, e⟩) hn
  refine ⟨by rw [← h1]; exact congrArg _ (one_len s.1 c), fun hb x hx ho => ?_, fun hb => ?_⟩
  · unfold onePF oneF at ho
    dsimp only at ho
    split at ho
    · rename_i z hz
      have hzc : z ∈ c := (hw.1 (by rw [hz]; exact List.mem_cons_self)).1
      split at ho
      · exact h2 x hx ho
      · rw [onF_let (inT_of h1 (hl z hzc)) (hl z hzc).1 hx.1] at ho
        split at ho
        · rename_i e
          subst e
          exact .unit hc hzc fun y hy hne => turned y hy (by rw [hz]; simpa using hne)
        · split at ho
          · cases ho
          · exact h2 x hx ho
    · exact h2 x hx ho
  · unfold onePF oneB at hb
    dsimp only at hb
    rw [hs, Bool.false_or, List.isEmpty_iff] at hb
    exact .inr ⟨c, hc, fun y hy => turned y hy (by rw [hb]; exact List.not_mem_nil)⟩
end Go.Proofs.Ytfflfmpkjcomgaa
namespace Go.Proofs.Ytfflfmpkjcomgaa
open Go.RowKit
set_option maxRecDepth 100000
theorem sndT_sweep {cs : List (List Int)} {v : Int} {G : Int → Prop} (hl : ∀ c ∈ cs, ∀ x ∈ c, LitV v x) : ∀ (l : List (List Int)) (s : List Int × Bool), (∀ c ∈ l, c ∈ cs) → SndT cs v G s → SndT cs v G (sweepF l s)
  | [], _, _, h => h
  | c :: l, s, hm, h => by
    unfold sweepF
    split
    · exact h
    · rename_i hs
      exact sndT_sweep hl l _ (fun d hd => hm d (List.mem_cons_of_mem _ hd)) (sndT_one h (by simpa using hs) (hm c List.mem_cons_self) (hl c (hm c List.mem_cons_self)))
theorem sndT_rounds {cs : List (List Int)} {v : Int} {G : Int → Prop} (hl : ∀ c ∈ cs, ∀ x ∈ c, LitV v x) : ∀ (n : Nat) (s : List Int × Bool), SndT cs v G s → SndT cs v G (roundsF cs n s)
  | 0, _, h => h
  | n + 1, s, h => by
    unfold roundsF
    split
    · exact h
    · exact sndT_rounds hl n _ (sndT_sweep hl cs s (fun _ h => h) h)
/-- what is given is told -/
theorem give_ok {cs : List (List Int)} {v : Int} {g : List Int} (hv : 0 ≤ v) (hg : ∀ x ∈ g, LitV v x) : SndT cs v (GL g) (g.foldl gvF (List.replicate (v + 1).toNat 0, false)) ∧ ((g.foldl gvF (List.replicate (v + 1).toNat 0, false)).2 = false → ∀ x ∈ g, onF (g.foldl gvF (List.replicate (v + 1).toNat 0, false)).1 x = true) := by
  have key : ∀ (l p : List Int) (s : List Int × Bool), (∀ x ∈ l, x ∈ g) → (∀ x ∈ p, x ∈ g) → (s.1.length : Int) = v + 1 → (∀ x, LitV v x → onF s.1 x = true → x ∈ p) → (s.2 = true → Confl cs (GL g)) → (s.2 = false → ∀ x ∈ p, onF s.1 x = true) →
      ∃ p' : List Int, (∀ x ∈ p', x ∈ g) ∧ ((l.foldl gvF s).1.length : Int) = v + 1 ∧ (∀ x, LitV v x → onF (l.foldl gvF s).1 x = true → x ∈ p') ∧ ((l.foldl gvF s).2 = true → Confl cs (GL g)) ∧ ((l.foldl gvF s).2 = false → (∀ x ∈ p', onF (l.foldl gvF s).1 x = true) ∧ (∀ x ∈ p, x ∈ p') ∧ ∀ x ∈ l, x ∈ p') := by
    intro l
    induction l with
    | nil => exact fun p s _ hp h1 h2 h3 h4 => ⟨p, hp, h1, h2, h3, fun h => ⟨h4 h, fun _ h => h, fun _ h => absurd h List.not_mem_nil⟩⟩
    | cons y l ih =>
      intro p s hl hp h1 h2 h3 h4
      have hyg := hl y List.mem_cons_self
      have hly := hg y hyg
      obtain ⟨p', q1, q2, q3, q4, q5⟩ := ih (p ++ [y]) (gvF s y) (fun x hx => hl x (List.mem_cons_of_mem _ hx)) (fun x hx => by
        rcases List.mem_append.1 hx with hx | hx
        · exact hp x hx
        · exact List.mem_singleton.1 hx ▸ hyg) (by rw [← h1]; exact congrArg _ (let_len s.1 y)) (fun x hx ho => by
        change onF (letF s.1 y) x = true at ho
        rw [onF_let (inT_of h1 hly) hly.1 hx.1] at ho
        split at ho
        · rename_i e
          exact List.mem_append_right _ (e ▸ List.mem_cons_self)
        · split at ho
          · cases ho
          · exact List.mem_append_left _ (h2 x hx ho)) (fun hb => by
        change (s.2 || onF s.1 (0 - y)) = true at hb
        rcases Bool.or_eq_true_iff.1 hb with hb | hb
        · exact h3 hb
        · exact .inl ⟨y, .given hyg, .given (hp _ (h2 _ hly.neg hb))⟩) (fun hb x hx => by
        change (s.2 || onF s.1 (0 - y)) = false at hb
        obtain ⟨b1, b2⟩ := Bool.or_eq_false_iff.1 hb
        show onF (letF s.1 y) x = true
        have hxg : x ∈ g := by
          rcases List.mem_append.1 hx with hx | hx
          · exact hp x hx
          · exact List.mem_singleton.1 hx ▸ hyg
        rw [onF_let (inT_of h1 hly) hly.1 (hg x hxg).1]
        split
        · rfl
        · rename_i hne
          have hxp : x ∈ p := by
            rcases List.mem_append.1 hx with hx | hx
            · exact hx
            · exact absurd (List.mem_singleton.1 hx) hne
          have := h4 b1 x hxp
          split
          · rename_i e
            rw [e, b2] at this
            cases this
          · exact this)
      refine ⟨p', q1, q2, q3, q4, fun hb => ?_⟩
      obtain ⟨r1, r2, r3⟩ := q5 hb
      refine ⟨r1, fun x hx => r2 x (List.mem_append_left _ hx), fun x hx => ?_⟩
      rcases List.mem_cons.1 hx with rfl | hx
      · exact r2 _ (List.mem_append_right _ List.mem_cons_self)
      · exact r3 x hx
  obtain ⟨p', q1, q2, q3, q4, q5⟩ := key g [] (List.replicate (v + 1).toNat 0, false) (fun _ h => h) (fun _ h => absurd h List.not_mem_nil) (by rw [List.length_replicate]; omega) (fun x _ ho => by rw [onF_zero] at ho; cases ho) (fun h => by cases h) (fun _ x hx => absurd hx List.not_mem_nil)
  refine ⟨⟨q2, fun _ x hx ho => .given (q1 x (q3 x hx ho)), q4⟩, fun hb x hx => ?_⟩
  obtain ⟨r1, _, r3⟩ := q5 hb
  exact r1 x (r3 x hx)
theorem reach_snd {cs : List (List Int)} {v : Int} {g : List Int} (hv : 0 ≤ v) (hl : ∀ c ∈ cs, ∀ x ∈ c, LitV v x) (hg : ∀ x ∈ g, LitV v x) : SndT cs v (GL g) (reachF cs v g) := sndT_rounds hl _ _ (give_ok hv hg).1
end Go.Proofs.Ytfflfmpkjcomgaa
namespace Go.Proofs.Ytfflfmpkjcomgaa
open Go.RowKit
set_option maxRecDepth 100000
theorem fil_le {l : List Nat} {p p' : Nat → Bool} (h : ∀ k ∈ l, p k = true → p' k = true) : (l.filter p).length ≤ (l.filter p').length := by
  induction l with
  | nil => exact Nat.le_refl _
  | cons a l ih =>
    have ih := ih fun k hk => h k (List.mem_cons_of_mem _ hk)
    have ha := h a List.mem_cons_self
    rw [List.filter_cons, List.filter_cons]
    split
    · rename_i e
      rw [if_pos (ha e)]
      simp only [List.length_cons]
      omega
    · split
      · simp only [List.length_cons]
        omega
      · exact ih
theorem fil_lt {l : List Nat} {p p' : Nat → Bool} (h : ∀ k ∈ l, p k = true → p' k = true) {a : Nat} (ha : a ∈ l) (h1 : p a = false) (h2 : p' a = true) : (l.filter p).length < (l.filter p').length := by
  induction l with
  | nil => cases ha
  | cons b l ih =>
    have hle := fil_le fun k hk => h k (List.mem_cons_of_mem _ hk)
    have hb := h b List.mem_cons_self
    rw [List.filter_cons, List.filter_cons]
    rcases List.mem_cons.1 ha with rfl | ha
    · rw [h1, h2]
      simp only [Bool.false_eq_true, if_false, if_true, List.length_cons]
      omega
    · have ih := ih (fun k hk => h k (List.mem_cons_of_mem _ hk)) ha
      split
      · rename_i e
        rw [if_pos (hb e)]
        simp only [List.length_cons]
        omega
      · split
        · simp only [List.length_cons]
          omega
        · exact ih
/-- is a variable settled? -/
def dcd (on : List Int) (k : Nat) : Bool := onF on ((k : Int) + 1) || onF on (0 - ((k : Int) + 1))
def ms (V : Nat) (on : List Int) : Nat := ((List.range V).filter (dcd on)).length
theorem ms_le (V : Nat) (on : List Int) : ms V on ≤ V := by
  have := List.length_filter_le (dcd on) (List.range V)
  rw [List.length_range] at this
  exact this
theorem let_keep {on : List Int} {x y : Int} (hx : InT on x) (hx0 : x ≠ 0) (hy0 : y ≠ 0) (hn : onF on (0 - x) = false) (hy : onF on y = true) : onF (letF on x) y = true := by
  rw [onF_let hx hx0 hy0]
  split
  · rfl
  · split
    · rename_i e
      rw [e, hn] at hy
      cases hy
    · exact hy
theorem one_case {V : Nat} {on : List Int} {c : List Int} (h : (on.length : Int) = V + 1) (hl : ∀ x ∈ c, LitV V x) : oneF on c = on ∨ (ms V on < ms V (oneF on c) ∧ ∀ y, y ≠ 0 → onF on y = true → onF (oneF on c) y = true) := by
  unfold oneF
  split
  · rename_i z hz
    obtain ⟨hzc, hzn⟩ := left_iff.1 (show z ∈ leftF on c by rw [hz]; exact List.mem_cons_self)
    have hlz := hl z hzc
    have hit := inT_of h hlz
    split
    · exact .inl rfl
    · rename_i hno
      have hno : onF on z = false := by simpa using hno
      right
      refine ⟨?_, fun y hy0 hy => let_keep hit hlz.1 hy0 hzn hy⟩
      unfold ms
      refine fil_lt (a := (if z < 0 then 0 - z else z).toNat - 1) (fun k _ hk => ?_) (List.mem_range.2 ?_) ?_ ?_
      · unfold dcd at hk ⊢
        rcases (Bool.or_eq_true _ _ ▸ hk) with hk | hk
        · rw [let_keep hit hlz.1 (by omega) hzn hk]; rfl
        · rw [let_keep hit hlz.1 (by omega) hzn hk, Bool.or_true]
      · unfold LitV at hlz; split <;> omega
      · unfold dcd
        unfold LitV at hlz
        split
        · rw [show (((0 - z).toNat - 1 : Nat) : Int) + 1 = 0 - z by omega, show 0 - (0 - z) = z by omega, hzn, hno]; rfl
        · rw [show ((z.toNat - 1 : Nat) : Int) + 1 = z by omega, hzn, hno]; rfl
      · unfold dcd
        have hx1 : onF (letF on z) z = true := by rw [onF_let hit hlz.1 hlz.1, if_pos rfl]
        unfold LitV at hlz
        split
        · rw [show (((0 - z).toNat - 1 : Nat) : Int) + 1 = 0 - z by omega, show 0 - (0 - z) = z by omega, hx1, Bool.or_true]
        · rw [show ((z.toNat - 1 : Nat) : Int) + 1 = z by omega, hx1]; rfl
  · exact .inl rfl
theorem sweep_bad {l : List (List Int)} {s : List Int × Bool} (h : s.2 = true) : sweepF l s = s := by
  cases l with
  | nil => rfl
  | cons c l => unfold sweepF; rw [if_pos h]
theorem rounds_bad {cs : List (List Int)} {n : Nat} {s : List Int × Bool} (h : s.2 = true) : roundsF cs n s = s := by
  cases n with
  | zero => rfl
  | succ n => unfold roundsF; rw [if_pos h]
theorem sweep_case {V : Nat} : ∀ (l : List (List Int)) (s : List Int × Bool), (∀ c ∈ l, ∀ x ∈ c, LitV V x) → (s.1.length : Int) = V + 1 → s.2 = false → (sweepF l s).2 = false →
    ((sweepF l s).1.length : Int) = V + 1 ∧ (∀ y, y ≠ 0 → onF s.1 y = true → onF (sweepF l s).1 y = true) ∧ ((sweepF l s = s ∧ ∀ c ∈ l, onePF s c = s) ∨ ms V s.1 < ms V (sweepF l s).1)
  | [], s, _, h, _, _ => ⟨h, fun _ _ h => h, .inl ⟨rfl, fun _ hc => absurd hc List.not_mem_nil⟩⟩
  | c :: l, s, hl, h, hs, hb => by
    have e : sweepF (c :: l) s = sweepF l (onePF s c) := by rw [sweepF, if_neg (by rw [hs]; decide)]
    rw [e] at hb ⊢
    have h1 : (onePF s c).2 = false := by
      cases e1 : (onePF s c).2 with
      | false => rfl
      | true => rw [sweep_bad e1, e1] at hb; cases hb
    obtain ⟨k1, k2, k3⟩ := sweep_case l (onePF s c) (fun d hd => hl d (List.mem_cons_of_mem _ hd)) (by rw [← h]; exact congrArg _ (one_len s.1 c)) h1 hb
    rcases one_case h (hl c List.mem_cons_self) with ho | ⟨ho, hk⟩
    · have es : onePF s c = s := Prod.ext ho (h1.trans hs.symm)
      rw [es] at k1 k2 k3 ⊢
      refine ⟨k1, k2, k3.imp (fun ⟨a, b⟩ => ⟨a, fun d hd => ?_⟩) id⟩
      rcases List.mem_cons.1 hd with rfl | hd
      · exact es
      · exact b d hd
    · refine ⟨k1, fun y hy0 hy => k2 y hy0 (hk y hy0 hy), .inr ?_⟩
      rcases k3 with ⟨a, _⟩ | k3
      · rw [a]; exact ho
      · exact Nat.lt_trans ho k3
theorem rounds_case {V : Nat} {cs : List (List Int)} (hl : ∀ c ∈ cs, ∀ x ∈ c, LitV V x) : ∀ (n : Nat) (s : List Int × Bool), (s.1.length : Int) = V + 1 → s.2 = false → (roundsF cs n s).2 = false → V < ms V s.1 + n →
    ((roundsF cs n s).1.length : Int) = V + 1 ∧ (∀ y, y ≠ 0 → onF s.1 y = true → onF (roundsF cs n s).1 y = true) ∧ ∀ c ∈ cs, onePF (roundsF cs n s) c = roundsF cs n s
  | 0, s, _, _, _, hm => by
    have := ms_le V s.1
    omega
  | n + 1, s, h, hs, hb, hm => by
    have e : roundsF cs (n + 1) s = roundsF cs n (sweepF cs s) := by rw [roundsF, if_neg (by rw [hs]; decide)]
    rw [e] at hb ⊢
    have h1 : (sweepF cs s).2 = false := by
      cases e1 : (sweepF cs s).2 with
      | false => rfl
      | true => rw [rounds_bad e1, e1] at hb; cases hb
    obtain ⟨k1, k2, k3⟩ := sweep_case cs s hl h hs h1
    rcases k3 with ⟨a, b⟩ | k3
    · have hf : ∀ n, roundsF cs n s = s := fun n => by
        induction n with
        | zero => rfl
        | succ n ih => rw [roundsF, if_neg (by rw [hs]; decide), a, ih]
      rw [a, hf]
      exact ⟨h, fun _ _ h => h, b⟩
    · obtain ⟨j1, j2, j3⟩ := rounds_case hl n (sweepF cs s) k1 h1 hb (by omega)
      exact ⟨j1, fun y hy0 hy => j2 y hy0 (k2 y hy0 hy), j3⟩
end Go.Proofs.Ytfflfmpkjcomgaa
namespace Go.Proofs.Ytfflfmpkjcomgaa
open Go.RowKit
set_option maxRecDepth 100000
theorem left_nodup {on c : List Int} : (leftF on c).Nodup := by
  have key : ∀ (c l : List Int), l.Nodup → (c.foldl (fun l y => if y ∈ l ∨ onF on (0 - y) = true then l else l ++ [y]) l).Nodup := by
    intro c
    induction c with
    | nil => exact fun l h => h
    | cons y c ih =>
      intro l hl
      rw [List.foldl_cons]
      split
      · exact ih l hl
      · rename_i h
        refine ih _ ?_
        rw [List.nodup_append]
        refine ⟨hl, by simp, fun a ha b hb => ?_⟩
        rw [List.mem_singleton.1 hb]
        rintro rfl
        exact h (.inl ha)
  exact key c [] List.nodup_nil
theorem onF_one {on : List Int} {x : Int} (hx0 : x ≠ 0) (h : onF on x = true) : onF on (0 - x) = false := by
  unfold onF at *
  by_cases hx : x < 0
  · rw [if_pos hx] at h
    rw [if_neg (by omega), of_decide_eq_true h]
    decide
  · rw [if_neg hx] at h
    rw [if_pos (by omega), show 0 - (0 - x) = x by omega, of_decide_eq_true h]
    decide
theorem fix_un {cs : List (List Int)} {v : Int} {g t : List Int} (ht : (t.length : Int) = v + 1) (hl : ∀ c ∈ cs, ∀ x ∈ c, LitV v x) (hg : ∀ x ∈ g, LitV v x ∧ onF t x = true) (hfix : ∀ c ∈ cs, onePF (t, false) c = (t, false)) : (∀ x, Un cs (GL g) x → LitV v x ∧ onF t x = true) ∧ ¬ Confl cs (GL g) := by
  have hne : ∀ c ∈ cs, leftF t c ≠ [] := fun c hc e => by
    have := congrArg Prod.snd (hfix c hc)
    simp only [onePF, oneB, e, List.isEmpty_nil, Bool.or_true] at this
    cases this
  have key : ∀ x, Un cs (GL g) x → LitV v x ∧ onF t x = true := fun x h => by
    induction h with
    | given h => exact hg _ h
    | unit hc hx _ ih =>
      rename_i c x _
      have hlx := hl c hc x hx
      refine ⟨hlx, ?_⟩
      have h1 : ∀ z ∈ leftF t c, z = x := fun z hz => by
        obtain ⟨z1, z2⟩ := left_iff.1 hz
        refine Classical.byContradiction fun hne => ?_
        rw [(ih z z1 hne).2] at z2
        cases z2
      have h2 := hne c hc
      have h3 := @left_nodup t c
      have h4 := congrArg Prod.fst (hfix c hc)
      simp only [onePF, oneF] at h4
      generalize leftF t c = w at h1 h2 h3 h4
      match w, h1, h2, h3, h4 with
      | [], _, h2, _, _ => exact absurd rfl h2
      | [z], h1, _, _, h4 =>
        obtain rfl := h1 z List.mem_cons_self
        simp only at h4
        split at h4
        · assumption
        · have := congrArg (fun l => onF l z) h4
          skip
          rw [onF_let (inT_of ht hlx) hlx.1 hlx.1, if_pos rfl] at this
          exact this.symm
      | a :: b :: w, h1, _, h3, _ =>
        have e1 := h1 a List.mem_cons_self
        have e2 := h1 b (by simp)
        rw [List.nodup_cons] at h3
        exact absurd (by rw [e1, e2]; exact List.mem_cons_self) h3.1
  refine ⟨key, ?_⟩
  rintro (⟨x, h1, h2⟩ | ⟨c, hc, h⟩)
  · have k1 := key x h1
    have k2 := (key _ h2).2
    rw [onF_one k1.1.1 k1.2] at k2
    cases k2
  · have h2 := hne c hc
    obtain ⟨z, hz⟩ := List.exists_mem_of_ne_nil _ h2
    obtain ⟨z1, z2⟩ := left_iff.1 hz
    rw [(key _ (h z z1)).2] at z2
    cases z2
/-- what the reference reaches is what holds by unit propagation -/
theorem reach_iff {cs : List (List Int)} {v : Int} {g : List Int} (hv : 0 ≤ v) (hl : ∀ c ∈ cs, ∀ x ∈ c, LitV v x) (hg : ∀ x ∈ g, LitV v x) : ((reachF cs v g).2 = true ↔ Confl cs (GL g)) ∧ ((reachF cs v g).2 = false → ∀ x, LitV v x → (onF (reachF cs v g).1 x = true ↔ Un cs (GL g) x)) := by
  have hs := reach_snd hv hl hg
  have hfull : (reachF cs v g).2 = false → (∀ x, Un cs (GL g) x → LitV v x ∧ onF (reachF cs v g).1 x = true) ∧ ¬ Confl cs (GL g) := fun hb => by
    obtain ⟨V, rfl⟩ : ∃ V : Nat, v = V := ⟨v.toNat, by omega⟩
    obtain ⟨g1, g2⟩ := give_ok (cs := cs) hv hg
    have hb' := hb
    unfold reachF at hb'
    have h0 : (g.foldl gvF (List.replicate ((V : Int) + 1).toNat 0, false)).2 = false := by
      cases e1 : (g.foldl gvF (List.replicate ((V : Int) + 1).toNat 0, false)).2 with
      | false => rfl
      | true => rw [rounds_bad e1, e1] at hb'; cases hb'
    obtain ⟨k1, k2, k3⟩ := rounds_case hl ((V : Int) + 1).toNat _ g1.ln h0 hb' (by omega)
    have ep : reachF cs V g = ((reachF cs V g).1, false) := Prod.ext rfl hb
    refine fix_un k1 hl (fun x hx => ⟨hg x hx, k2 x (hg x hx).1 (g2 h0 x hx)⟩) fun c hc => ?_
    have := k3 c hc
    change onePF (reachF cs V g) c = reachF cs V g at this
    rw [ep] at this
    exact this
  refine ⟨⟨hs.cf, fun h => ?_⟩, fun hb x hx => ⟨hs.un hb x hx, fun h => ((hfull hb).1 x h).2⟩⟩
  cases e : (reachF cs v g).2 with
  | true => rfl
  | false => exact absurd h (hfull e).2
end Go.Proofs.Ytfflfmpkjcomgaa
namespace Go.Proofs.Ytfflfmpkjcomgaa
open Go.RowKit
set_option maxRecDepth 100000
/-- a table's marks -/
def Tri (on : List Int) : Prop := ∀ y ∈ on, y = -1 ∨ y = 0 ∨ y = 1
theorem tri_let {on : List Int} {x : Int} (h : Tri on) : Tri (letF on x) := fun y hy => by
  unfold letF at hy
  split at hy
  · rcases List.mem_or_eq_of_mem_set hy with hy | rfl
    · exact h y hy
    · exact .inl rfl
  · rcases List.mem_or_eq_of_mem_set hy with hy | rfl
    · exact h y hy
    · exact .inr (.inr rfl)
theorem tri_one {on c : List Int} (h : Tri on) : Tri (oneF on c) := by
  unfold oneF
  split
  · split
    · exact h
    · exact tri_let h
  · exact h
theorem tri_sweep : ∀ (l : List (List Int)) (s : List Int × Bool), Tri s.1 → Tri (sweepF l s).1
  | [], _, h => h
  | c :: l, s, h => by
    unfold sweepF
    split
    · exact h
    · exact tri_sweep l _ (tri_one h)
theorem tri_rounds (cs : List (List Int)) : ∀ (n : Nat) (s : List Int × Bool), Tri s.1 → Tri (roundsF cs n s).1
  | 0, _, h => h
  | n + 1, s, h => by
    unfold roundsF
    split
    · exact h
    · exact tri_rounds cs n _ (tri_sweep cs s h)
theorem tri_give : ∀ (g : List Int) (s : List Int × Bool), Tri s.1 → Tri (g.foldl gvF s).1
  | [], _, h => h
  | _ :: g, _, h => tri_give g _ (tri_let h)
theorem tri_reach (cs : List (List Int)) (v : Int) (g : List Int) : Tri (reachF cs v g).1 :=
  tri_rounds cs _ _ (tri_give g _ fun y hy => .inr (.inl (List.eq_of_mem_replicate hy)))
theorem tri_at {on : List Int} (h : Tri on) (k : Nat) : on.getD k 0 = -1 ∨ on.getD k 0 = 0 ∨ on.getD k 0 = 1 := by
  rw [List.getD_eq_getElem?_getD]
  cases e : on[k]? with
  | none => exact .inr (.inl rfl)
  | some y => exact h y (List.mem_of_getElem? e)
/-- what holds, by variables -/
def outAt (on : List Int) (k : Nat) : List Int := if on.getD (k + 1) 0 = 0 then [] else [((k : Int) + 1) * on.getD (k + 1) 0]
def outF (on : List Int) (n : Nat) : List Int := (List.range n).flatMap (outAt on)
theorem outF_succ (on : List Int) (n : Nat) : outF on (n + 1) = outF on n ++ outAt on n := by
  unfold outF
  rw [List.range_succ, List.flatMap_append]
  simp
theorem outAt_mem {on : List Int} (h : Tri on) {k : Nat} {x : Int} : x ∈ outAt on k ↔ (x = k + 1 ∨ x = 0 - (k + 1)) ∧ onF on x = true := by
  have e1 : ((k : Int) + 1).toNat = k + 1 := by omega
  have e2 : (0 - (0 - ((k : Int) + 1))).toNat = k + 1 := by omega
  have a1 : onF on ((k : Int) + 1) = decide (on.getD (k + 1) 0 = 1) := by
    unfold onF
    rw [if_neg (by omega), e1]
  have a2 : onF on (0 - ((k : Int) + 1)) = decide (on.getD (k + 1) 0 = -1) := by
    unfold onF
    rw [if_pos (by omega), e2]
  unfold outAt
  rcases tri_at h (k + 1) with e | e | e
  · rw [e] at a1 a2
    rw [e, if_neg (by decide), List.mem_singleton]
    constructor
    · intro hx
      have hx : x = 0 - ((k : Int) + 1) := by omega
      subst hx
      exact ⟨.inr rfl, by rw [a2]; rfl⟩
    · rintro ⟨rfl | rfl, ho⟩
      · rw [a1] at ho; cases ho
      · omega
  · rw [e] at a1 a2
    rw [e, if_pos rfl]
    constructor
    · intro hx; cases hx
    · rintro ⟨rfl | rfl, ho⟩
      · rw [a1] at ho; cases ho
      · rw [a2] at ho; cases ho
  · rw [e] at a1 a2
    rw [e, if_neg (by decide), List.mem_singleton]
    constructor
    · intro hx
      have hx : x = (k : Int) + 1 := by omega
      subst hx
      exact ⟨.inl rfl, by rw [a1]; rfl⟩
    · rintro ⟨rfl | rfl, ho⟩
      · omega
      · rw [a2] at ho; cases ho
theorem outF_mem {on : List Int} (h : Tri on) {n : Nat} {x : Int} : x ∈ outF on n ↔ LitV n x ∧ onF on x = true := by
  unfold outF
  rw [List.mem_flatMap]
  constructor
  · rintro ⟨k, hk, hx⟩
    obtain ⟨h1, h2⟩ := (outAt_mem h).1 hx
    have := List.mem_range.1 hk
    refine ⟨?_, h2⟩
    unfold LitV
    omega
  · rintro ⟨h1, h2⟩
    unfold LitV at h1
    refine ⟨x.natAbs - 1, List.mem_range.2 (by omega), (outAt_mem h).2 ⟨by omega, h2⟩⟩
/-- a literal's variable -/
def va (x : Int) : Nat := x.natAbs
theorem outF_up {on : List Int} (h : Tri on) : ∀ n : Nat, (outF on n).Pairwise fun x y => va x < va y
  | 0 => List.Pairwise.nil
  | n + 1 => by
    rw [outF_succ, List.pairwise_append]
    refine ⟨outF_up h n, ?_, fun x hx y hy => ?_⟩
    · unfold outAt
      split
      · exact List.Pairwise.nil
      · exact List.pairwise_singleton _ _
    · have h1 := ((outF_mem h).1 hx).1
      have h2 := ((outAt_mem h).1 hy).1
      unfold LitV at h1
      unfold va
      omega
theorem outF_len (on : List Int) (n : Nat) : (outF on n).length ≤ n := by
  induction n with
  | zero => exact Nat.le_refl _
  | succ n ih =>
    rw [outF_succ, List.length_append]
    have : (outAt on n).length ≤ 1 := by
      unfold outAt
      split <;> simp
    omega
/-- whatever holds just these, sorted by variables, is this list -/
theorem out_uniq {on t l : List Int} {n : Nat} (h : Tri on) (hn : t.Nodup) (hm : ∀ x, x ∈ t ↔ x ∈ outF on n) (hp : l.Perm t) (hs : l.Pairwise fun x y => va x ≤ va y) (hc : ∀ x ∈ t, 0 - x ∉ t) : l = outF on n := by
  have hnd : (outF on n).Nodup := (outF_up h n).imp fun hlt e => by rw [e] at hlt; exact Nat.lt_irrefl _ hlt
  have hp2 : l.Perm (outF on n) := hp.trans ((List.perm_ext_iff_of_nodup hn hnd).2 hm)
  refine hp2.eq_of_pairwise (le := fun x y => va x ≤ va y) (fun x y hx hy h1 h2 => ?_) hs ((outF_up h n).imp Nat.le_of_lt)
  have hx' := (hp.mem_iff).1 hx
  have hy' := (hm y).2 hy
  have e : va x = va y := Nat.le_antisymm h1 h2
  unfold va at e
  refine Classical.byContradiction fun hne => hc y hy' ?_
  rw [show 0 - y = x by omega]
  exact hx'
end Go.Proofs.Ytfflfmpkjcomgaa
namespace Go.Proofs.Ytfflfmpkjcomgaa
open Go.RowKit
set_option maxRecDepth 100000
/-- a turned literal -/
theorem litC_neg {vs : List Bool} {x : Int} (h : LitV vs.length x) : litC vs (0 - x) = !litC vs x := by
  unfold LitV at h
  unfold litC
  by_cases hx : x < 0
  · rw [if_neg (by omega), if_pos hx, Bool.not_not, show 0 - x - 1 = 0 - x - 1 from rfl]
  · rw [if_pos (by omega), if_neg hx, show 0 - (0 - x) - 1 = x - 1 by omega]
/-- what holds by unit propagation holds of values -/
theorem un_val {cs : List (List Int)} {G : Int → Prop} {vs : List Bool} (hb : ∀ c ∈ cs, ∀ x ∈ c, LitV vs.length x) (hall : (cs.all fun c => c.any (litC vs)) = true) (hG : ∀ x, G x → litC vs x = true) {x : Int} (h : Un cs G x) : litC vs x = true := by
  induction h with
  | given h => exact hG _ h
  | unit hc hx _ ih =>
    rename_i c x _
    obtain ⟨y, hy, hv⟩ := List.any_eq_true.1 (List.all_eq_true.1 hall c hc)
    by_cases e : y = x
    · exact e ▸ hv
    · have := ih y hy e
      rw [litC_neg (hb c hc y hy), hv] at this
      cases this
theorem confl_val {cs : List (List Int)} {G : Int → Prop} {vs : List Bool} (hb : ∀ c ∈ cs, ∀ x ∈ c, LitV vs.length x) (hall : (cs.all fun c => c.any (litC vs)) = true) (hG : ∀ x, G x → LitV vs.length x ∧ litC vs x = true) : ¬ Confl cs G := by
  have key := fun x (h : Un cs G x) => un_val hb hall (fun x h => (hG x h).2) h
  have lit : ∀ x, Un cs G x → LitV vs.length x := fun x h => by
    cases h with
    | given h => exact (hG _ h).1
    | unit hc hx _ => exact hb _ hc _ hx
  rintro (⟨x, h1, h2⟩ | ⟨c, hc, h⟩)
  · have := key _ h2
    rw [litC_neg (lit x h1), key _ h1] at this
    cases this
  · obtain ⟨y, hy, hv⟩ := List.any_eq_true.1 (List.all_eq_true.1 hall c hc)
    have := key _ (h y hy)
    rw [litC_neg (hb c hc y hy), hv] at this
    cases this
/-- what follows holds -/
theorem rup_val {cs : List (List Int)} {c : List Int} {vs : List Bool} (hb : ∀ c ∈ cs, ∀ x ∈ c, LitV vs.length x) (hbc : ∀ x ∈ c, LitV vs.length x) (hall : (cs.all fun c => c.any (litC vs)) = true) (h : Confl cs (GL (turn c))) : c.any (litC vs) = true := by
  refine Classical.byContradiction fun hn => confl_val hb hall (fun x hx => ?_) h
  obtain ⟨y, hy, rfl⟩ := List.mem_map.1 hx
  refine ⟨(hbc y hy).neg, ?_⟩
  have := List.any_eq_false.1 (by simpa using hn) y hy
  rw [litC_neg (hbc y hy)]
  simpa using this
theorem leads_val {l : List (List Int)} {vs : List Bool} (hl : ∀ c ∈ l, ∀ x ∈ c, LitV vs.length x) : ∀ {cs : List (List Int)}, (∀ c ∈ cs, ∀ x ∈ c, LitV vs.length x) → (cs.all fun c => c.any (litC vs)) = true → Leads cs l → ((cs ++ l).all fun c => c.any (litC vs)) = true := by
  induction l with
  | nil => intro cs _ h _; rw [List.append_nil]; exact h
  | cons c l ih =>
    intro cs hb hall hL
    obtain ⟨h1, h2⟩ := hL
    have hc := rup_val hb (hl c List.mem_cons_self) hall h1
    have := ih (fun d hd => hl d (List.mem_cons_of_mem _ hd)) (cs := cs ++ [c]) (fun d hd => by
      rcases List.mem_append.1 hd with hd | hd
      · exact hb d hd
      · rw [List.mem_singleton.1 hd]; exact hl c List.mem_cons_self) (by rw [List.all_append, hall]; simp [hc]) h2
    rwa [List.append_assoc] at this
theorem leadsC_val {cs l : List (List Int)} {vs : List Bool} (hb : ∀ c ∈ cs, ∀ x ∈ c, LitV vs.length x) (hl : ∀ c ∈ l, ∀ x ∈ c, LitV vs.length x) (h : LeadsC cs l) : (cs.all fun c => c.any (litC vs)) = false := by
  cases hall : cs.all fun c => c.any (litC vs) with
  | false => rfl
  | true =>
    refine absurd h.2 (confl_val (fun c hc => ?_) (leads_val hl hb hall h.1) fun _ e => e.elim)
    rcases List.mem_append.1 hc with hc | hc
    · exact hb c hc
    · exact hl c hc
/-- is there a way to go on with values? -/
def anyF (cs : List (List Int)) : Nat → List Bool → Bool
  | 0, vs => cs.all fun c => c.any (litC vs)
  | n + 1, vs => anyF cs n (vs ++ [false]) || anyF cs n (vs ++ [true])
theorem anyF_val {cs l : List (List Int)} {V : Nat} (hb : ∀ c ∈ cs, ∀ x ∈ c, LitV V x) (hl : ∀ c ∈ l, ∀ x ∈ c, LitV V x) (h : LeadsC cs l) : ∀ (n : Nat) (vs : List Bool), vs.length + n = V → anyF cs n vs = false
  | 0, vs, e => by
    have e : vs.length = V := e
    subst e
    exact leadsC_val hb hl h
  | n + 1, vs, e => by
    unfold anyF
    rw [anyF_val hb hl h n _ (by simp; omega), anyF_val hb hl h n _ (by simp; omega)]
    rfl
theorem leads_mono {l : List (List Int)} : ∀ {cs cs' : List (List Int)}, (∀ c ∈ cs, c ∈ cs') → Leads cs l → Leads cs' l := by
  induction l with
  | nil => intro _ _ _ _; trivial
  | cons c l ih =>
    intro cs cs' hs h
    refine ⟨h.1.mono (fun c hc => ⟨c, hs c hc, fun _ => Iff.rfl⟩) fun _ h => .given h, ih (fun d hd => ?_) h.2⟩
    rcases List.mem_append.1 hd with hd | hd
    · exact List.mem_append_left _ (hs d hd)
    · exact List.mem_append_right _ hd
theorem leadsC_mono {l cs cs' : List (List Int)} (hs : ∀ c ∈ cs, c ∈ cs') (h : LeadsC cs l) : LeadsC cs' l := by
  refine ⟨leads_mono hs h.1, h.2.mono (fun c hc => ⟨c, ?_, fun _ => Iff.rfl⟩) fun _ e => e.elim⟩
  rcases List.mem_append.1 hc with hc | hc
  · exact List.mem_append_left _ (hs c hc)
  · exact List.mem_append_right _ hc
/-- a clause that has another one's literals, which follows, follows -/
theorem confl_more {cs cs' : List (List Int)} {c c' : List Int} (hs : ∀ d ∈ cs, d ∈ cs') (hc : ∀ x ∈ c, x ∈ c') (h : Confl cs (GL (turn c))) : Confl cs' (GL (turn c')) :=
  h.mono (fun d hd => ⟨d, hs d hd, fun _ => Iff.rfl⟩) fun x hx => .given (by
    obtain ⟨y, hy, rfl⟩ := List.mem_map.1 hx
    exact List.mem_map_of_mem (hc y hy))
/-- a clause that stands there follows -/
theorem confl_own {cs : List (List Int)} {c c' : List Int} (h1 : c ∈ cs) (h2 : ∀ x ∈ c, x ∈ c') : Confl cs (GL (turn c')) :=
  .inr ⟨c, h1, fun y hy => .given (List.mem_map_of_mem (h2 y hy))⟩
end Go.Proofs.Ytfflfmpkjcomgaa
