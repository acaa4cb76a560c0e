/- IdentFinds: what is found is what the document finds. -/
import Derived.Test.YtfljnhmpelpdaaaDoorFinds
import Derived.Test.YtfljnhmpelpdaaaDoorTkTops
namespace Go.Proofs.YtfljnhmpelpdaaaDoor
open Go.RowKit
set_option maxRecDepth 100000

def toI (x : Tok.Tk) : Ti := ⟨x.k, x.t, x.p⟩
theorem cs_flat (l : List Tok.Tk) : Tok.cs l = (l.map toI).flatMap tic := by
  induction l with
  | nil => rfl
  | cons x l ih => rw [Tok.cs, ih]; rfl
theorem lst_of_cs {W : World} {B : Nat} {v : Value} {l : List Tok.Tk} (h : W.ownsRow B 23 3 v l.length (Tok.cs l)) : Lst tic W v (l.map toI) := by
  rw [cs_flat, show l.length = (l.map toI).length from by simp] at h
  exact Lst.of_row h
theorem endL_all (P : Tok.Tk → Prop) (l : List Tok.Tk) (a : Nat) (h : ∀ x ∈ l, P x) (h3 : P ⟨3, ⟨#[]⟩, a⟩) : ∀ x ∈ Tok.endL l a, P x := by
  unfold Tok.endL
  split
  · exact h
  · split
    · exact h
    · intro x hx
      rcases List.mem_append.1 hx with hx | hx
      · exact h x hx
      · rw [List.mem_singleton.1 hx]; exact h3
theorem endL_len (l : List Tok.Tk) (a : Nat) : (Tok.endL l a).length ≤ l.length + 1 := by
  unfold Tok.endL
  split
  · omega
  · split
    · omega
    · simp
theorem ext_le (s : ByteArray) (a b : Nat) : (s.extract a b).size ≤ s.size := by rw [ByteArray.size_extract]; omega
theorem app_all (s : ByteArray) (l : List Tok.Tk) (k a b p : Nat) (h : ∀ x ∈ l, x.t.size ≤ s.size) : ∀ x ∈ l ++ [⟨k, s.extract a b, p⟩], x.t.size ≤ s.size := by
  intro x hx
  rcases List.mem_append.1 hx with hx | hx
  · exact h x hx
  · rw [List.mem_singleton.1 hx]; exact ext_le s a b
theorem stepB_all (s : ByteArray) (a : Nat) (l : List Tok.Tk) (h : ∀ x ∈ l, x.t.size ≤ s.size) : ∀ x ∈ (Tok.stepB s a l).1, x.t.size ≤ s.size := by
  unfold Tok.stepB
  split
  · exact endL_all (fun x => x.t.size ≤ s.size) l a h (Nat.zero_le _)
  · split
    · exact h
    · split
      · exact h
      · split
        · exact app_all s l _ _ _ _ h
        · split
          · exact app_all s l _ _ _ _ h
          · exact h
theorem runB_all (s : ByteArray) : ∀ (f : Nat) (l : List Tok.Tk) (a : Nat) (l' : List Tok.Tk), Tok.runAll (fun a l => some (Tok.stepB s a l)) s.size f l a = .inl l' → (∀ x ∈ l, x.t.size ≤ s.size) → ∀ x ∈ l', x.t.size ≤ s.size
  | 0, l, a, l', h, hl => by
    rw [Tok.runAll] at h
    cases h
    exact hl
  | f + 1, l, a, l', h, hl => by
    rw [Tok.runAll] at h
    split at h
    · have h2 := stepB_all s a l hl
      generalize Tok.stepB s a l = r at h h2
      obtain ⟨l1, b1⟩ := r
      exact runB_all s f l1 b1 l' h h2
    · cases h
      exact hl
theorem toksB_all (s : ByteArray) : ∀ x ∈ Tok.toksB s, x.t.size ≤ s.size := by
  unfold Tok.toksB
  split
  · rename_i l hl
    exact endL_all (fun x => x.t.size ≤ s.size) l s.size (runB_all s _ _ _ l hl (fun x hx => absurd hx (by simp))) (Nat.zero_le _)
  · intro x hx; exact absurd hx (by simp)
theorem toksB_len (s : ByteArray) : (Tok.toksB s).length ≤ s.size + 1 := by
  unfold Tok.toksB
  split
  · rename_i l hl
    have h1 := Tok.runAll_len (fun a l => some (Tok.stepB s a l)) s.size (fun a l l' b h e => by
      have := Tok.stepB_go s a l h
      simp only [Option.some.injEq] at e
      rw [e] at this
      exact this) s.size [] 0 l (by simp) (by omega) hl
    have := endL_len l s.size
    omega
  · simp

set_option maxHeartbeats 1000000 in
theorem finds_big (f : Int) (toks : List Ti) (v : Value) (s text : ByteArray) (w : World) (hv : Lst tic w v toks) (h : (30 : Int) < (toks.length : Int) ∨ (120 : Int) < (s.size : Int) ∨ (300 : Int) < (text.size : Int)) :
    Calls Tryd.prog 8 #[.int .i64 f, v, .string s, .string text] w fun e w' => e = .returned (.bool true) ∧ Below w.heap.size w w' := by
  obtain ⟨b, c, rfl⟩ := hv.slice
  clear hv
  by_cases h1 : (30 : Int) < (toks.length : Int)
  · clear h
    go_enter Tryd.func8, Tryd.ntmps8
    go_wp2_with fail
    refine (works_any _).mono ?_
    rintro e w1 ⟨rfl, b1⟩
    go_wp2
    go_ret
    exact ⟨rfl, b1⟩
  · have h1' : decide ((30 : Int) < (toks.length : Int)) = false := decide_eq_false h1
    by_cases h2 : (120 : Int) < (s.size : Int)
    · clear h h1
      go_enter Tryd.func8, Tryd.ntmps8
      go_wp2_with fail
      refine (works_any _).mono ?_
      rintro e w1 ⟨rfl, b1⟩
      go_wp2
      go_ret
      exact ⟨rfl, b1⟩
    · have h2' : decide ((120 : Int) < (s.size : Int)) = false := decide_eq_false h2
      have h3 : (300 : Int) < (text.size : Int) := by rcases h with h | h | h <;> first | exact absurd h h1 | exact absurd h h2 | exact h
      clear h h1 h2
      go_enter Tryd.func8, Tryd.ntmps8
      go_wp2_with fail
      refine (works_any _).mono ?_
      rintro e w1 ⟨rfl, b1⟩
      go_wp2
      go_ret
      exact ⟨rfl, b1⟩

set_option maxHeartbeats 2000000 in
theorem finds_in (f : Int) (toks : List Ti) (v : Value) (s text : ByteArray) (w : World) (hv : Lst tic w v toks) (hX : Tok.HX w) (h1 : ¬ (30 : Int) < (toks.length : Int)) (h2 : ¬ (120 : Int) < (s.size : Int)) (h3 : ¬ (300 : Int) < (text.size : Int)) :
    Calls Tryd.prog 8 #[.int .i64 f, v, .string s, .string text] w fun e w' => e = .returned (.bool true) ∧ Below w.heap.size w w' := by
  have HV := Lib.hid hv
  have HXX := Lib.hid hX
  obtain ⟨b, c, rfl⟩ := hv.slice
  have h1' : decide ((30 : Int) < (toks.length : Int)) = false := decide_eq_false h1
  have h2' : decide ((120 : Int) < (s.size : Int)) = false := decide_eq_false h2
  have h3' : decide ((300 : Int) < (text.size : Int)) = false := decide_eq_false h3
  clear hv hX
  go_enter Tryd.func8, Tryd.ntmps8
  go_wp2_with fail
  refine (works_any _).mono ?_
  rintro e w1 ⟨rfl, b1⟩
  have B1 := Lib.hid b1
  have V1 := Lib.hid (HV.out.below b1)
  clear b1
  go_wp2
  go_loop [10] (fun i => ∃ k : Nat, k ≤ toks.length ∧ i = .int .i64 (k : Int) ∧ Hid (∀ x ∈ toks.take k, x.t.size ≤ 120)) (fun i => toks.length - (intOf i).toNat)
  case atStart => exact ⟨0, by omega, rfl, Lib.hid (by simp)⟩
  case round =>
    obtain ⟨j, hj, rfl, hall⟩ := hrel
    by_cases hlt : j < toks.length
    · have hlt' : (j : Int) < (toks.length : Int) := by omega
      obtain ⟨g, o, cc, x, hx, hvv, hg, hc⟩ := V1.out.at_ tic_len hlt
      injection hvv with hb _ hcc
      subst hb hcc
      have c1 : w1.cell? ⟨g, o + j * 3 + 1, none⟩ = some (.string x.t) := hc 1 (by omega)
      by_cases hx120 : (120 : Int) < (x.t.size : Int)
      · clear hc hx hall
        go_wp2
        go_ret
        exact ⟨rfl, B1.out⟩
      · have hx' : decide ((120 : Int) < (x.t.size : Int)) = false := decide_eq_false hx120
        have hn : ∀ y ∈ toks.take (j + 1), y.t.size ≤ 120 := by
          intro y hy
          rw [List.take_add_one, hx] at hy
          rcases List.mem_append.1 hy with hy | hy
          · exact hall.out y hy
          · simp at hy; rw [hy]; omega
        have HN := Lib.hid hn
        clear hc hx hall hn
        go_wp2
        refine ⟨⟨j + 1, by omega, by go_num, HN⟩, ?_⟩
        simp [intOf]; omega
    · have hge : (toks.length : Int) ≤ (j : Int) := by omega
      have hz : ∀ x ∈ toks, x.t.size ≤ 100000 := fun x hx => Nat.le_trans (hall.out x (by rw [List.take_of_length_le (by omega)]; exact hx)) (by omega)
      have HZ := Lib.hid hz
      clear hz hall
      go_wp2_with fail
      refine (of_any toks _ _ (by omega) V1.out).mono ?_
      rintro e w2 ⟨v2, rfl, r2, b2⟩
      have L2 := Lib.hid (Lst.of_row r2)
      have B2 := Lib.hid (B1.out.trans (b2.mono B1.out.size))
      clear r2 b2
      go_wp2_with fail
      refine (rfind_any f toks _ s _ (by omega) L2.out HZ.out).mono ?_
      obtain ⟨q1, hq1⟩ : ∃ q, findL f s toks = q := ⟨_, rfl⟩
      have HQ1 := Lib.hid hq1
      rw [hq1]
      clear hq1
      rintro e w3 ⟨rfl, b3⟩
      have B3 := Lib.hid (B2.out.trans (b3.mono B2.out.size))
      clear b3
      go_wp2_with fail
      refine (Tok.blif_any text _ (HXX.out.below B3.out) (by omega)).mono ?_
      rintro e w4 ⟨v4, rfl, r4, b4⟩
      have L4 := Lib.hid (lst_of_cs r4)
      have B4 := Lib.hid (B3.out.trans (b4.mono B3.out.size))
      have hlen : ((Tok.toksB text).map toI).length ≤ 100000 := by have := toksB_len text; simp; omega
      have hz : ∀ x ∈ (Tok.toksB text).map toI, x.t.size ≤ 100000 := fun x hx => by
        obtain ⟨y, hy, rfl⟩ := List.mem_map.1 hx
        have := toksB_all text y hy
        show y.t.size ≤ 100000
        omega
      have HLEN := Lib.hid hlen
      have HZ2 := Lib.hid hz
      clear r4 b4 hlen hz
      generalize (Tok.toksB text).map toI = bl at L4 HLEN HZ2
      go_wp2_with fail
      refine (of_any bl _ _ HLEN.out L4.out).mono ?_
      rintro e w5 ⟨v5, rfl, r5, b5⟩
      have L5 := Lib.hid (Lst.of_row r5)
      have M5 := Lib.hid (L4.out.below b5)
      have B5 := Lib.hid (B4.out.trans (b5.mono B4.out.size))
      clear r5 b5
      go_wp2_with fail
      refine (rfind_any 2 bl _ s _ HLEN.out L5.out HZ2.out).mono ?_
      obtain ⟨q2, hq2⟩ : ∃ q, findL 2 s bl = q := ⟨_, rfl⟩
      have HQ2 := Lib.hid hq2
      rw [hq2]
      clear hq2
      rintro e w6 ⟨rfl, b6⟩
      have M6 := Lib.hid (M5.out.below b6)
      have B6 := Lib.hid (B5.out.trans (b6.mono B5.out.size))
      have V6 := Lib.hid (HV.out.below B6.out)
      clear b6
      go_wp2_with fail
      refine (find_any f toks _ s _ (by omega) V6.out HZ.out).mono ?_
      rw [HQ1.out]
      rintro e w7 ⟨rfl, b7⟩
      have M7 := Lib.hid (M6.out.below b7)
      have B7 := Lib.hid (B6.out.trans (b7.mono B6.out.size))
      clear b7
      go_wp2_with fail
      refine (find_any 2 bl _ s _ HLEN.out M7.out HZ2.out).mono ?_
      rw [HQ2.out]
      rintro e w8 ⟨rfl, b8⟩
      have B8 := Lib.hid (B7.out.trans (b8.mono B7.out.size))
      clear b8
      go_wp2
      go_ret
      exact ⟨rfl, B8.out⟩

theorem law_finds (f : Int) (toks : List Ti) (v : Value) (s text : ByteArray) (w : World) (hv : Lst tic w v toks) (hX : Tok.HX w) :
    Calls Tryd.prog 8 #[.int .i64 f, v, .string s, .string text] w fun e w' => e = .returned (.bool true) ∧ Below w.heap.size w w' := by
  by_cases h1 : (30 : Int) < (toks.length : Int)
  · exact finds_big f toks v s text w hv (.inl h1)
  · by_cases h2 : (120 : Int) < (s.size : Int)
    · exact finds_big f toks v s text w hv (.inr (.inl h2))
    · by_cases h3 : (300 : Int) < (text.size : Int)
      · exact finds_big f toks v s text w hv (.inr (.inr h3))
      · exact finds_in f toks v s text w hv hX h1 h2 h3
theorem ti_ofQ {H : Type} {enc : TypeId × Value → H} {W : World} (n : Nat) (xs : List Value) (y : DataW H × List MemPlace) (h : DataW.trod enc Tryd.prog W 0 (fun _ => true) true n 23 xs = some y) (hl : xs.length = 3) : ∃ x : Ti, xs = tic x ∧ x.t.size ≤ maxLen := ti_of h hl
end Go.Proofs.YtfljnhmpelpdaaaDoor
