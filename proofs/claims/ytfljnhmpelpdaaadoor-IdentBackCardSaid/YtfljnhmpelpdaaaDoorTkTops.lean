/- Blif, Bench, Verilog: what they tell of any text. -/
import Derived.Test.YtfljnhmpelpdaaaDoorTkNews
namespace Go.Proofs.YtfljnhmpelpdaaaDoor.Tok
set_option maxRecDepth 100000
open Go.RowKit

theorem ownsRow_mono {W : World} {b b' : Nat} {e : TypeId} {size : Nat} {v : Value} {n : Nat} {xs : List Value} (h : W.ownsRow b e size v n xs) (hb : b' ≤ b) : W.ownsRow b' e size v n xs := by
  obtain ⟨h1, h2⟩ := h
  refine ⟨h1, ?_⟩
  rcases h2 with h2 | ⟨g, cap, cur, h3, h4, h5⟩
  · exact .inl h2
  · exact .inr ⟨g, cap, cur, h3, Nat.le_trans hb h4, h5⟩

/-- what is told of a text: its tokens in a row of the call's own, or where none is -/
def Out3 (w : World) (r : List Tk ⊕ Nat) (e : Ending) (w' : World) : Prop :=
  match r with
  | .inl l => ∃ v, e = .returned (.tuple #[v, .int .i64 0, .int .i64 0]) ∧ w'.ownsRow w.heap.size 23 3 v l.length (cs l) ∧ Below w.heap.size w w'
  | .inr a => e = .returned (.tuple #[.slice none 0 0, .int .i64 (a : Int), .int .i64 2]) ∧ Below w.heap.size w w'

def toksN (s : ByteArray) : List Tk ⊕ Nat := runAll (stepN s) s.size s.size [] 0
def toksV (s : ByteArray) : List Tk ⊕ Nat := runAll (stepV s) s.size s.size [] 0
/-- the words of BLIF, and the ends of its lines -/
def toksB (s : ByteArray) : List Tk :=
  match runAll (fun a l => some (stepB s a l)) s.size s.size [] 0 with
  | .inl l => endL l s.size
  | .inr _ => []

set_option maxRecDepth 100000 in
set_option maxHeartbeats 1000000 in
theorem bench_any (s : ByteArray) (w : World) (hX : HX w) (hs : s.size ≤ 100000) : Calls Tryd.prog 18 #[.string s] w (Out3 w (toksN s)) := by
  have hall := fun k1 k2 k3 w => readAllN_any k1 k2 k3 s w
  unfold toksN
  generalize runAll (stepN s) s.size s.size [] 0 = T at hall
  have HALL := Lib.hid hall
  clear hall
  have HXX := Lib.hid hX
  clear hX
  go_enter Tryd.func18, Tryd.ntmps18
  go_wp2_with fail
  refine (newN_any _).mono ?_
  rintro e w1 ⟨k1, k2, k3, rfl, h1, h2, h3, b1⟩
  have HR := Lib.hid (HALL.out k1 k2 k3 w1 (HXX.out.below b1) h1 h2 h3 hs)
  have B1 := Lib.hid b1
  clear h1 h2 h3 b1
  go_wp2_with fail
  refine HR.out.mono ?_
  cases T with
  | inl l =>
    rintro e w2 ⟨v, rfl, hr, b2⟩
    have HR2 := Lib.hid (ownsRow_mono hr (show w.heap.size ≤ w1.heap.size + 3 by have := B1.out.size; omega))
    have B2 := Lib.hid (B1.out.trans (b2.mono B1.out.size))
    obtain ⟨so, sc, rfl⟩ := row_slice hr
    clear hr b2
    go_wp2
    go_ret3
    exact ⟨_, rfl, HR2.out, B2.out⟩
  | inr a =>
    rintro e w2 ⟨rfl, b2⟩
    have B2 := Lib.hid (B1.out.trans (b2.mono B1.out.size))
    clear b2
    go_wp2
    go_ret3
    exact ⟨rfl, B2.out⟩

set_option maxRecDepth 100000 in
set_option maxHeartbeats 1000000 in
theorem verilog_any (s : ByteArray) (w : World) (hX : HX w) (hs : s.size ≤ 100000) : Calls Tryd.prog 19 #[.string s] w (Out3 w (toksV s)) := by
  have hall := fun k1 k2 k3 w => readAllV_any k1 k2 k3 s w
  unfold toksV
  generalize runAll (stepV s) s.size s.size [] 0 = T at hall
  have HALL := Lib.hid hall
  clear hall
  have HXX := Lib.hid hX
  clear hX
  go_enter Tryd.func19, Tryd.ntmps19
  go_wp2_with fail
  refine (newV_any _).mono ?_
  rintro e w1 ⟨k1, k2, k3, rfl, h1, h2, h3, b1⟩
  have HR := Lib.hid (HALL.out k1 k2 k3 w1 (HXX.out.below b1) h1 h2 h3 hs)
  have B1 := Lib.hid b1
  clear h1 h2 h3 b1
  go_wp2_with fail
  refine HR.out.mono ?_
  cases T with
  | inl l =>
    rintro e w2 ⟨v, rfl, hr, b2⟩
    have HR2 := Lib.hid (ownsRow_mono hr (show w.heap.size ≤ w1.heap.size + 3 by have := B1.out.size; omega))
    have B2 := Lib.hid (B1.out.trans (b2.mono B1.out.size))
    obtain ⟨so, sc, rfl⟩ := row_slice hr
    clear hr b2
    go_wp2
    go_ret3
    exact ⟨_, rfl, HR2.out, B2.out⟩
  | inr a =>
    rintro e w2 ⟨rfl, b2⟩
    have B2 := Lib.hid (B1.out.trans (b2.mono B1.out.size))
    clear b2
    go_wp2
    go_ret3
    exact ⟨rfl, B2.out⟩

theorem runAll_len (st : Nat → List Tk → Option (List Tk × Nat)) (n : Nat) (h : ∀ a l l' b, a < n → st a l = some (l', b) → a < b ∧ b ≤ n ∧ l'.length ≤ l.length + 1) :
    ∀ (f : Nat) (l : List Tk) (a : Nat) (r : List Tk), l.length ≤ a → a ≤ n → runAll st n f l a = .inl r → r.length ≤ n
  | 0, l, a, r, h1, h2, h3 => by
    simp only [runAll, Sum.inl.injEq] at h3
    subst h3; omega
  | f + 1, l, a, r, h1, h2, h3 => by
    rw [runAll] at h3
    split at h3
    · rename_i hlt
      cases hst : st a l with
      | none => rw [hst] at h3; cases h3
      | some q =>
        obtain ⟨l', b⟩ := q
        rw [hst] at h3
        have := h a l l' b hlt hst
        exact runAll_len st n h f l' b r (by omega) (by omega) h3
    · simp only [Sum.inl.injEq] at h3
      subst h3; omega

set_option maxRecDepth 100000 in
set_option maxHeartbeats 1000000 in
theorem blif_any (s : ByteArray) (w : World) (hX : HX w) (hs : s.size ≤ 100000) :
    Calls Tryd.prog 17 #[.string s] w fun e w' => ∃ v, e = .returned v ∧ w'.ownsRow w.heap.size 23 3 v (toksB s).length (cs (toksB s)) ∧ Below w.heap.size w w' := by
  have HXX := Lib.hid hX
  clear hX
  go_enter Tryd.func17, Tryd.ntmps17
  go_wp2_with fail
  refine (newB_any _).mono ?_
  rintro e w1 ⟨k, rfl, h1, b1⟩
  have HR := Lib.hid (readAllB_any k s w1 (HXX.out.below b1) h1 hs)
  have B1 := Lib.hid b1
  clear h1 b1
  go_wp2_with fail
  refine HR.out.mono ?_
  rintro e w2 ⟨v, l, rfl, hl, hr, b2⟩
  have hlen := runAll_len (fun a l => some (stepB s a l)) s.size (fun a l l' b h e => by
    have := stepB_go s a l h
    simp only [Option.some.injEq] at e
    rw [e] at this
    exact this) s.size [] 0 l (by simp) (by omega) hl
  have htk : toksB s = endL l s.size := by unfold toksB; rw [hl]
  have HTK := Lib.hid htk
  have hr2 := ownsRow_mono hr (show w.heap.size ≤ w1.heap.size + 3 by have := B1.out.size; omega)
  have HR2 := Lib.hid hr2
  have B2 := Lib.hid (B1.out.trans (b2.mono B1.out.size))
  obtain ⟨so, sc, rfl⟩ := row_slice hr
  clear hr b2 hl htk hr2
  go_wp2_with fail
  refine (end_any l _ s.size _ w.heap.size B2.out.size (by omega) HR2.out).mono ?_
  rintro e w3 ⟨v3, rfl, hr3, b3⟩
  have HR3 := Lib.hid hr3
  have B3 := Lib.hid (B2.out.trans b3)
  clear hr3 b3
  go_wp2
  go_ret
  rw [HTK.out]
  exact ⟨_, rfl, HR3.out, B3.out⟩
end Go.Proofs.YtfljnhmpelpdaaaDoor.Tok
