/- Words with a blank behind each are the same words again: BLIF. -/
import Derived.Test.YtfljnhmpelpdaaaAgain2
namespace Go.Proofs.Ytfljnhmpelpdaaa
open Go.RowKit

def wdB (x : Tk) : Prop := x.t = ⟨#[92]⟩ ∨ (x.t.data.toList ≠ [] ∧ ∀ c ∈ x.t.data.toList, wB c = true)
/-- tokens of BLIF: the end of a line stands behind words alone -/
def okB : Bool → List Tk → Prop
  | _, [] => True
  | p, x :: l => (x.k = 3 ∧ x.t = ⟨#[]⟩ ∧ p = false ∧ okB true l) ∨ (x.k = 0 ∧ wdB x ∧ okB false l)
/-- do they end with the end of a line, or is nothing there -/
def lst (p : Bool) : List Tk → Bool
  | [] => p
  | x :: l => lst (x.k == 3) l
theorem lst_snoc : ∀ (l : List Tk) (p : Bool) (x : Tk), lst p (l ++ [x]) = (x.k == 3)
  | [], _, _ => rfl
  | y :: l, _, x => lst_snoc l (y.k == 3) x
theorem okB_snoc : ∀ (l : List Tk) (p : Bool) (x : Tk), okB p l → (x.k = 3 ∧ x.t = ⟨#[]⟩ ∧ lst p l = false) ∨ (x.k = 0 ∧ wdB x) → okB p (l ++ [x])
  | [], p, x, _, h => by
    rcases h with ⟨h1, h2, h3⟩ | ⟨h1, h2⟩
    · exact .inl ⟨h1, h2, h3, trivial⟩
    · exact .inr ⟨h1, h2, trivial⟩
  | y :: l, p, x, hl, h => by
    rcases hl with ⟨h1, h2, h3, h4⟩ | ⟨h1, h2, h4⟩
    · refine .inl ⟨h1, h2, h3, okB_snoc l true x h4 ?_⟩
      rw [lst, h1] at h
      exact h
    · refine .inr ⟨h1, h2, okB_snoc l false x h4 ?_⟩
      rw [lst, h1] at h
      exact h
theorem endL_lst (l : List Tk) (a : Nat) : endL l a = if lst true l then l else l ++ [⟨3, ⟨#[]⟩, a⟩] := by
  rcases List.eq_nil_or_concat l with rfl | ⟨l, x, rfl⟩
  · rfl
  · rw [List.concat_eq_append, lst_snoc]
    unfold endL
    rw [List.getLast?_append]
    simp
theorem endL_ok (l : List Tk) (a : Nat) (h : okB true l) : okB true (endL l a) ∧ lst true (endL l a) = true := by
  rw [endL_lst]
  cases hl : lst true l
  · simp only [Bool.false_eq_true, if_false]
    exact ⟨okB_snoc l true _ h (.inl ⟨rfl, rfl, hl⟩), lst_snoc _ _ _⟩
  · simp only [if_true]
    exact ⟨h, hl⟩
theorem eq10' (c : UInt8) : ((c.toNat : Int) = 10) ↔ c = 10 := by
  rw [← UInt8.toNat_inj]
  have : (10 : UInt8).toNat = 10 := rfl
  omega
theorem eq35' (c : UInt8) : ((c.toNat : Int) = 35) ↔ c = 35 := by
  rw [← UInt8.toNat_inj]
  have : (35 : UInt8).toNat = 35 := rfl
  omega
theorem wB_facts (c : UInt8) (h : wB c = true) : ¬ (c.toNat : Int) = 10 ∧ ¬ (c.toNat : Int) = 35 ∧ c ≠ 92 := by
  have e1 : isOf ⟨#[9, 13, 32, 10, 35, 92]⟩ c = ([9, 13, 32, 10, 35, 92] : List UInt8).contains c := isOf_mem _ _
  unfold wB at h
  rw [e1] at h
  rw [eq10', eq35']
  simp at h
  exact ⟨h.2.2.2.1, h.2.2.2.2.1, h.2.2.2.2.2⟩
theorem wB32 : wB 32 = false := by unfold wB; rw [isOf_mem]; rfl

theorem stepB_ok (s : ByteArray) (a : Nat) (l : List Tk) (ha : a < s.size) (hi : okB true l) : okB true (stepB s a l).1 := by
  unfold stepB
  rw [atB_of s a ha]
  split
  · exact (endL_ok l a hi).1
  split
  · exact hi
  split
  · exact hi
  split
  · rename_i h92
    refine okB_snoc l true _ hi (.inr ⟨rfl, .inl ?_⟩)
    rw [atB_get s a ha, eq92] at h92
    show s.extract a (a + 1) = _
    rw [one_ext s a ha, h92]
  split
  · rename_i hw
    exact okB_snoc l true _ hi (.inr ⟨rfl, .inr (word_sh _ s a (skip_gt wB s a ha (by rw [atB_of s a ha]; exact hw)) (skip_le _ s a (by omega)))⟩)
  · exact hi

theorem againB (T : ByteArray) : ∀ (l acc : List Tk) (a f : Nat) (p : Bool), okB p l → lst true acc = p → T.data.toList.drop a = layL l → a ≤ T.size → T.size ≤ a + f →
    ∃ m, runAll (fun a l => some (stepB T a l)) T.size f acc a = .inl (acc ++ m) ∧ alike l m ∧ lst true (acc ++ m) = lst p l
  | [], acc, a, f, p, _, hp, hd, ha, hf => by
    have : a = T.size := by
      have := congrArg List.length hd
      simp [layL] at this
      omega
    refine ⟨[], ?_, trivial, by rw [List.append_nil, hp]; rfl⟩
    rw [List.append_nil]
    cases f with
    | zero => rfl
    | succ f => rw [runAll, if_neg (by omega)]
  | x :: l, acc, a, f, p, hs, hp, hd, ha, hf => by
    have blank : ∀ acc b f q, okB q l → lst true acc = q → T.data.toList.drop b = 32 :: layL l → T.size ≤ b + f →
        ∃ m, runAll (fun a l => some (stepB T a l)) T.size f acc b = .inl (acc ++ m) ∧ alike l m ∧ lst true (acc ++ m) = lst q l := by
      intro acc b f q hq hac hb hbf
      obtain ⟨h1, h2, h3, h4⟩ := at_drop T b 32 _ hb
      obtain ⟨f, rfl⟩ : ∃ g, f = g + 1 := ⟨f - 1, by omega⟩
      have hst : stepB T b acc = (acc, b + 1) := by
        unfold stepB
        rw [h3, h2, hb, noPrefix _ _ _ _ (by decide), if_neg (by decide), if_neg (by decide), if_neg (by simp), if_neg (by decide), if_neg (by rw [wB32]; simp)]
      obtain ⟨m, hm, hal, hla⟩ := againB T l acc (b + 1) f q hq hac h4 (by omega) (by omega)
      exact ⟨m, by rw [runAll, if_pos h1, hst]; exact hm, hal, hla⟩
    rcases hs with ⟨hk, ht, hpf, hok⟩ | ⟨hk, hw, hok⟩
    · have hd' : T.data.toList.drop a = 10 :: 32 :: layL l := by
        rw [hd, layL, List.flatMap_cons, layT, hk, ht]
        rfl
      obtain ⟨h1, h2, h3, h4⟩ := at_drop T a 10 _ hd'
      obtain ⟨f, rfl⟩ : ∃ g, f = g + 1 := ⟨f - 1, by omega⟩
      have hst : stepB T a acc = (acc ++ [⟨3, ⟨#[]⟩, a⟩], a + 1) := by
        unfold stepB
        rw [h2, if_pos (by decide), endL_lst, hp, hpf]
        rfl
      obtain ⟨m, hm, hal, hla⟩ := blank (acc ++ [⟨3, ⟨#[]⟩, a⟩]) (a + 1) f true hok (lst_snoc _ _ _) h4 (by omega)
      refine ⟨⟨3, ⟨#[]⟩, a⟩ :: m, ?_, ⟨hk, ht, hal⟩, ?_⟩
      · rw [runAll, if_pos h1, hst]
        simpa using hm
      · rw [lst, hk]
        simpa using hla
    · rcases hw with ht | ⟨hne, hw⟩
      · have hd' : T.data.toList.drop a = 92 :: 32 :: layL l := by
          rw [hd, layL, List.flatMap_cons, layT, hk, ht]
          rfl
        obtain ⟨h1, h2, h3, h4⟩ := at_drop T a 92 _ hd'
        obtain ⟨f, rfl⟩ : ∃ g, f = g + 1 := ⟨f - 1, by omega⟩
        have hpre : Lib.hasPrefix (92 :: 32 :: layL l) [92, 10] = false := by
          unfold Lib.hasPrefix
          simp [List.isPrefixOf]
        have hst : stepB T a acc = (acc ++ [⟨0, T.extract a (a + 1), a⟩], a + 1) := by
          unfold stepB
          rw [h2, hd', hpre, if_neg (by decide), if_neg (by decide), if_neg (by simp), if_pos (by decide)]
        have hex : T.extract a (a + 1) = x.t := by rw [ht]; exact extract_drop T a [92] _ hd'
        obtain ⟨m, hm, hal, hla⟩ := blank (acc ++ [⟨0, T.extract a (a + 1), a⟩]) (a + 1) f false hok (lst_snoc _ _ _) h4 (by omega)
        refine ⟨⟨0, T.extract a (a + 1), a⟩ :: m, ?_, ⟨hk, hex.symm, hal⟩, ?_⟩
        · rw [runAll, if_pos h1, hst]
          simpa using hm
        · rw [lst, hk]
          simpa using hla
      · obtain ⟨c, t, hct⟩ : ∃ c t, x.t.data.toList = c :: t := by
          cases h : x.t.data.toList with
          | nil => exact absurd h hne
          | cons c t => exact ⟨c, t, rfl⟩
        have hd' : T.data.toList.drop a = x.t.data.toList ++ 32 :: layL l := by
          rw [hd, layL, List.flatMap_cons, layT, hk]
          simp [layL]
        have hd2 : T.data.toList.drop a = c :: (t ++ 32 :: layL l) := by rw [hd', hct]; rfl
        obtain ⟨h1, h2, h3, h4⟩ := at_drop T a c _ hd2
        obtain ⟨f, rfl⟩ : ∃ g, f = g + 1 := ⟨f - 1, by omega⟩
        have hcw := hw c (by rw [hct]; simp)
        obtain ⟨q1, q2, q3⟩ := wB_facts c hcw
        have hsk : skip wB T a = a + x.t.data.toList.length := skip_drop wB T a _ _ hd' hw wB32
        have hex : T.extract a (skip wB T a) = x.t := by rw [hsk]; exact extract_drop T a _ _ hd'
        have hst : stepB T a acc = (acc ++ [⟨0, T.extract a (skip wB T a), a⟩], skip wB T a) := by
          unfold stepB
          rw [h3, h2, hd2, noPrefix _ _ _ _ q3, if_neg q1, if_neg q2, if_neg (by simp), if_neg (by rw [eq92]; exact q3), if_pos hcw]
        have hlen : 0 < x.t.data.toList.length := by rw [hct]; simp
        obtain ⟨m, hm, hal, hla⟩ := blank (acc ++ [⟨0, T.extract a (skip wB T a), a⟩]) (skip wB T a) f false hok (lst_snoc _ _ _) (by rw [hsk]; exact drop_more T a _ _ hd') (by omega)
        refine ⟨⟨0, T.extract a (skip wB T a), a⟩ :: m, ?_, ⟨hk, hex.symm, hal⟩, ?_⟩
        · rw [runAll, if_pos h1, hst]
          simpa using hm
        · rw [lst, hk]
          simpa using hla
theorem toksB_ok (s : ByteArray) : okB true (toksB s) ∧ lst true (toksB s) = true := by
  unfold toksB
  split
  · rename_i l h
    obtain ⟨b, hi⟩ := runAll_inv (fun l _ => okB true l) (fun a l l' b ha hi h => by
      simp only [Option.some.injEq] at h
      have := stepB_ok s a l ha hi
      rw [h] at this
      exact this) _ [] _ _ (show okB true [] from trivial) h
    exact endL_ok l s.size hi
  · exact ⟨trivial, rfl⟩
theorem toksB_again (s : ByteArray) : alike (toksB s) (toksB ⟨(layL (toksB s)).toArray⟩) := by
  obtain ⟨h1, h2⟩ := toksB_ok s
  generalize toksB s = l at h1 h2
  obtain ⟨m, hm, hal, hla⟩ := againB ⟨(layL l).toArray⟩ l [] 0 (ByteArray.size ⟨(layL l).toArray⟩) true h1 rfl (by simp) (by omega) (by omega)
  unfold toksB
  rw [hm]
  simp only [List.nil_append] at hla ⊢
  rw [endL_lst, hla, h2]
  exact hal
end Go.Proofs.Ytfljnhmpelpdaaa
