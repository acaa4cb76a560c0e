import Derived.Test.YtbhoeanfnbkenaaGreatDoorR18
import Derived.Test.YtbhoeanfnbkenaaGreatDoorR22
import Derived.Test.YtbhoeanfnbkenaaGreatDoorR24
namespace Go.Proofs.YtbhoeanfnbkenaaGreatDoor
open Go.RowKit
set_option maxRecDepth 100000
set_option linter.unusedSimpArgs false
structure SortOk (gs : List Gt) (l : List Nat) : Prop where
 lt : ∀ x ∈ l, x < gs.length
 nodup : l.Nodup
 at_ : ∀ (i k : Nat), l[i]? = some k → zaF gs (zal (l.take i)) = some k
 stop : zaF gs (zal l) = none
theorem zg3 {gs : List Gt} {th : Nat → Bool} {k : Nat} (h : zaF gs th = some k) : k < gs.length ∧ th k = false ∧ zcX gs th k = false := by
 have h1 := List.find?_some h
 unfold zbn at h1
 simp only [Bool.and_eq_true, Bool.not_eq_true'] at h1
 exact ⟨List.mem_range.1 (List.mem_of_find?_eq_some h), h1⟩
theorem zg4 (gs : List Gt) : ∀ (n : Nat) (th : Nat → Bool) (i k : Nat), (zah gs n th).1[i]? = some k → zaF gs (fun j => th j || decide (j ∈ (zah gs n th).1.take i)) = some k
 | 0, th, i, k, h => by simp [zah] at h
 | n + 1, th, i, k, h => by
  cases hf : zaF gs th with
  | none => simp [zah, hf] at h
  | some k0 =>
   rw [zci hf] at h ⊢
   cases i with
   | zero =>
    simp only [List.getElem?_cons_zero, Option.some.injEq] at h
    subst h
    simp only [List.take_zero, List.not_mem_nil, decide_false, Bool.or_false]
    exact hf
   | succ i =>
    rw [List.getElem?_cons_succ] at h
    have := zg4 gs n (updB th k0) i k h
    rw [← this]
    congr 1
    funext j
    simp only [List.take_succ_cons, List.mem_cons, updB, Bool.decide_or]
    cases th j <;> cases decide (j = k0) <;> rfl
theorem zg5 (gs : List Gt) : ∀ (n : Nat) (th : Nat → Bool), (zah gs n th).1.Nodup ∧ ∀ x ∈ (zah gs n th).1, th x = false
 | 0, th => ⟨List.nodup_nil, fun x hx => by cases hx⟩
 | n + 1, th => by
  cases hf : zaF gs th with
  | none => rw [zdk hf]; exact ⟨List.nodup_nil, fun x hx => by cases hx⟩
  | some k0 =>
   rw [zci hf]
   obtain ⟨h1, h2⟩ := zg5 gs n (updB th k0)
   have h3 := (zg3 hf).2.1
   refine ⟨List.nodup_cons.2 ⟨fun hm => ?_, h1⟩, fun x hx => ?_⟩
   ·have := h2 k0 hm
    rw [zmn] at this
    cases this
   ·rcases List.mem_cons.1 hx with rfl | hx
    ·exact h3
    ·have := h2 x hx
     unfold updB at this
     simp only [Bool.or_eq_false_iff] at this
     exact this.2
theorem zg6 (gs : List Gt) : ∀ (n : Nat) (th : Nat → Bool), (zah gs n th).1.length = n ∨ zaF gs (zah gs n th).2 = none
 | 0, th => .inl rfl
 | n + 1, th => by
  cases hf : zaF gs th with
  | none => rw [zdk hf]; exact .inr hf
  | some k0 =>
   rw [zci hf]
   rcases zg6 gs n (updB th k0) with h | h
   ·exact .inl (by rw [List.length_cons, h])
   ·exact .inr h
theorem zj9 {n : Nat} {l : List Nat} (hn : l.Nodup) (hl : ∀ x ∈ l, x < n) (h : n ≤ l.length) : ∀ j, j < n → j ∈ l := fun j hj => by
 by_cases hm : j ∈ l
 ·exact hm
 ·have := zin (n := n) (List.nodup_cons.2 ⟨hm, hn⟩) (fun x hx => by
   rcases List.mem_cons.1 hx with rfl | hx
   ·exact hj
   ·exact hl x hx)
  rw [List.length_cons] at this
  omega
theorem zef (gs : List Gt) : SortOk gs (zZ gs).1 := by
 have h1 := (zd9 gs gs.length zaq).2
 have h2 := (zg5 gs gs.length zaq).1
 refine ⟨h1, h2, fun i k h => ?_, ?_⟩
 ·have := zg4 gs gs.length zaq i k h
  exact this
 ·have he : (zZ gs).2 = zal (zZ gs).1 := funext fun k => zeU gs k
  rcases zg6 gs gs.length zaq with h | h
  ·refine List.find?_range_eq_none.2 fun j hj => ?_
   have hm := zj9 h2 h1 (Nat.le_of_eq h.symm) j hj
   unfold zbn zal
   rw [show (decide (j ∈ (zZ gs).1)) = true from decide_eq_true hm]
   rfl
  ·rw [← he]
   exact h
theorem SortOk.one {gs : List Gt} {l : List Nat} (h : SortOk gs l) : l = (zZ gs).1 := by
 have h2 := zef gs
 have key : ∀ i, l.take i = (zZ gs).1.take i := fun i => by
  induction i with
  | zero => rfl
  | succ i ih =>
   rw [List.take_add_one, List.take_add_one, ih]
   congr 2
   cases ha : l[i]? with
   | some k =>
    have h3 := h.at_ i k ha
    cases hb : (zZ gs).1[i]? with
    | some k2 =>
     have h4 := h2.at_ i k2 hb
     rw [ih, h4] at h3
     exact h3.symm
    | none =>
     have := h2.stop
     rw [List.take_of_length_le (l := (zZ gs).1) (List.getElem?_eq_none_iff.1 hb)] at ih
     rw [ih, this] at h3
     cases h3
   | none =>
    cases hb : (zZ gs).1[i]? with
    | none => rfl
    | some k2 =>
     have h4 := h2.at_ i k2 hb
     have := h.stop
     rw [List.take_of_length_le (l := l) (List.getElem?_eq_none_iff.1 ha)] at ih
     rw [ih, h4] at this
     cases this
 have := key (max l.length (zZ gs).1.length)
 rwa [List.take_of_length_le (by omega), List.take_of_length_le (by omega)] at this
theorem zka {gs : List Gt} {th : Nat → Bool} {k : Nat} (h : zcX gs th k = false) {s : ByteArray} (hs : s ∈ (gat gs k).ins) {j : Nat} (hj : j < gs.length) (e : (gat gs j).name = s) : th j = true := by
 unfold zcX at h
 have := List.any_eq_false.1 h s hs
 cases ht : th j with
 | true => rfl
 | false => exact absurd ((zch gs th s).2 ⟨j, hj, e, ht⟩) this
theorem SortOk.ins {gs : List Gt} {l : List Nat} (h : SortOk gs l) {i k : Nat} (hi : l[i]? = some k) {s : ByteArray} (hs : s ∈ (gat gs k).ins) {j : Nat} (hj : j < gs.length) (e : (gat gs j).name = s) : j ∈ l.take i := by
 have := zka (zg3 (h.at_ i k hi)).2.2 hs hj e
 unfold zal at this
 exact of_decide_eq_true this
theorem zg7 (gs : List Gt) : (zZ gs).1.length + (za0 gs).length = gs.length := by
 rw [← zdx]
 unfold za6
 rw [List.length_map]
 have h1 := zef gs
 have h2 := zeK (fun _ => true) (zal (zZ gs).1) (List.range gs.length)
 simp only [Bool.true_and] at h2
 rw [List.filter_eq_self.2 (fun _ _ => rfl), List.length_range] at h2
 have h3 : ((List.range gs.length).filter fun x => zal (zZ gs).1 x).length = (zZ gs).1.length := by
  refine List.Perm.length_eq ((List.perm_ext_iff_of_nodup (List.nodup_range.filter _) h1.nodup).2 fun x => ?_)
  rw [List.mem_filter, List.mem_range]
  unfold zal
  rw [decide_eq_true_eq]
  exact ⟨fun h => h.2, fun h => ⟨h1.lt x h, h⟩⟩
 omega
def plC (c : Ci) (s : ByteArray) : Int := ixI (fun x => decide (x = s)) (z2 c)
theorem zfi {gs : List Gt} {k : Nat} (h : k < gs.length) : gs[k]? = some (gat gs k) := by
 unfold gat
 rw [List.getD_eq_getElem?_getD, List.getElem?_eq_getElem h]
 rfl
theorem zkb {l : List ByteArray} (hn : l.Nodup) {k : Nat} {s : ByteArray} (h : l[k]? = some s) : ixI (fun x => decide (x = s)) l = k :=
 zeq h (decide_eq_true rfl) fun j y hj hy => decide_eq_false fun e => by
  subst e
  have hjl := (List.getElem?_eq_some_iff.1 hy).1
  have := (List.getElem?_inj hjl hn).1 (hy.trans h.symm)
  omega
theorem zcK {c : Ci} {k : Nat} (hk : k < c.gts.length) : gat c.gts k ∈ c.gts := List.mem_of_getElem? (zfi hk)
end Go.Proofs.YtbhoeanfnbkenaaGreatDoor
namespace Go.Proofs.YtbhoeanfnbkenaaGreatDoor
open Go.RowKit
set_option maxRecDepth 100000
set_option linter.unusedSimpArgs false
structure MayC (c : Ci) : Prop where
 lim : zaW c = false
 nms : ∀ s ∈ zar c, zaV s = true
 nts : (z2 c).Nodup
 outs : c.outs.Nodup
 las : ∀ x ∈ c.las, zb5 x = true
 gts : ∀ g ∈ c.gts, zaM g = true
 used : ∀ s ∈ zbg c, s ∈ z2 c
theorem zg8 : ∀ (l pre : List ByteArray), l.Nodup → (∀ x ∈ l, x ∉ pre) → zbu pre l = none
 | [], _, _, _ => rfl
 | y :: l, pre, hn, hd => by
  rw [List.nodup_cons] at hn
  unfold zbu
  rw [if_neg (hd y List.mem_cons_self)]
  refine zg8 l _ hn.2 fun x hx hm => ?_
  rcases List.mem_append.1 hm with h | h
  ·exact hd x (List.mem_cons_of_mem _ hx) h
  ·rw [List.mem_singleton] at h
   exact hn.1 (h ▸ hx)
theorem zg9 (l : List ByteArray) : zaL l = none ↔ l.Nodup :=
 ⟨fun h => (zd7 _ [] (Option.map_eq_none_iff.1 h)).1, fun h => by unfold zaL; rw [zg8 l [] h (fun _ _ hx => by cases hx)]; rfl⟩
theorem zkc (c : Ci) : zay c = none ↔ MayC c := by
 have h1 : za4 c = none ↔ zaW c = false := by
  unfold za4
  cases zaW c <;> simp
 have h2 : zao (zar c) = none ↔ ∀ s ∈ zar c, zaV s = true := by
  unfold zao
  rw [Option.map_eq_none_iff, List.find?_eq_none]
  simp
 have h5 : zcm c = none ↔ (∀ x ∈ c.las, zb5 x = true) ∧ ∀ g ∈ c.gts, zaM g = true := by
  unfold zcm
  rw [Option.or_eq_none_iff, Option.map_eq_none_iff, Option.map_eq_none_iff, List.find?_eq_none, List.find?_eq_none]
  simp
 have h6 : zcD c = none ↔ ∀ s ∈ zbg c, s ∈ z2 c := by
  unfold zcD
  rw [Option.map_eq_none_iff, List.find?_eq_none]
  simp
 unfold zay
 rw [Option.or_eq_none_iff, Option.or_eq_none_iff, Option.or_eq_none_iff, Option.or_eq_none_iff, Option.or_eq_none_iff, h1, h2, zg9, zg9, h5, h6]
 exact ⟨fun ⟨a, b, d, e, ⟨f, g⟩, h⟩ => ⟨a, b, d, e, f, g, h⟩, fun ⟨a, b, d, e, f, g, h⟩ => ⟨a, b, d, e, ⟨f, g⟩, h⟩⟩
theorem zkd {c : Ci} {w : Int × ByteArray} (h : zay c = some w) : w.1 ≠ 0 := by
 unfold zay at h
 simp only [Option.or_eq_some_iff] at h
 rcases h with h | ⟨_, h | ⟨_, h | ⟨_, h | ⟨_, h | ⟨_, h⟩⟩⟩⟩⟩
 ·unfold za4 at h
  split at h
  ·cases h; decide
  ·cases h
 ·obtain ⟨s, _, rfl⟩ := Option.map_eq_some_iff.1 h; simp
 ·obtain ⟨s, _, rfl⟩ := Option.map_eq_some_iff.1 h; simp
 ·obtain ⟨s, _, rfl⟩ := Option.map_eq_some_iff.1 h; simp
 ·unfold zcm at h
  rcases Option.or_eq_some_iff.1 h with h | ⟨_, h⟩
  ·obtain ⟨s, _, rfl⟩ := Option.map_eq_some_iff.1 h; simp
  ·obtain ⟨s, _, rfl⟩ := Option.map_eq_some_iff.1 h; simp
 ·obtain ⟨s, _, rfl⟩ := Option.map_eq_some_iff.1 h; simp
theorem zct (c : Ci) : (zai c).1 = 0 ↔ MayC c := by
 rw [← zkc]
 unfold zai
 cases h : zay c with
 | none => exact ⟨fun _ => rfl, fun _ => rfl⟩
 | some w => exact ⟨fun e => absurd e (zkd h), fun e => by cases e⟩
theorem MayC.may {c : Ci} (h : MayC c) : May c := ⟨h.nts⟩
theorem zcL (c : Ci) : (zaw c).1 = 0 ↔ MayC c ∧ za0 c.gts = [] := by
 unfold zaw
 by_cases h0 : (zai c).1 = 0
 ·rw [if_pos h0]
  have := (zct c).1 h0
  cases h : za0 c.gts with
  | nil => simp [this]
  | cons x l => simp
 ·rw [if_neg h0]
  exact ⟨fun h => absurd h h0, fun h => absurd ((zct c).2 h.1) h0⟩
end Go.Proofs.YtbhoeanfnbkenaaGreatDoor
namespace Go.Proofs.YtbhoeanfnbkenaaGreatDoor
open Go.RowKit
set_option maxRecDepth 100000
set_option linter.unusedSimpArgs false
theorem Rch.mono {L : ByteArray → Option (List ByteArray)} {a b : List ByteArray} (h : ∀ s ∈ a, s ∈ b) {s : ByteArray} (hr : Rch L a s) : Rch L b s := by
 induction hr with
 | base h1 h2 => exact .base (h _ h1) h2
 | step _ h1 h2 h3 ih => exact .step ih h1 h2 h3
end Go.Proofs.YtbhoeanfnbkenaaGreatDoor
