import Derived.Test.YtbhoeanfnbkenaaGreatDoorR18
import Derived.Test.YtbhoeanfnbkenaaGreatDoorR22
import Derived.Test.YtbhoeanfnbkenaaGreatDoorR24
namespace Go.Proofs.YtbhoeanfnbkenaaGreatDoor
open Go.RowKit
set_option maxRecDepth 100000
set_option linter.unusedSimpArgs false
structure SortOk (gs : List Gt) (l : List Nat) : Prop where
 lt : ∀ x ∈ l, x < gs.length
 nodup : l.Nodup
 at_ : ∀ (i k : Nat), l[i]? = some k → zaE gs (zal (l.take i)) = some k
 stop : zaE gs (zal l) = none
theorem zg1 {gs : List Gt} {th : Nat → Bool} {k : Nat} (h : zaE gs th = some k) : k < gs.length ∧ th k = false ∧ zcX gs th k = false := by
 have h1 := List.find?_some h
 unfold zbn at h1
 simp only [Bool.and_eq_true, Bool.not_eq_true'] at h1
 exact ⟨List.mem_range.1 (List.mem_of_find?_eq_some h), h1⟩
theorem zg2 (gs : List Gt) : ∀ (n : Nat) (th : Nat → Bool) (i k : Nat), (zah gs n th).1[i]? = some k → zaE gs (fun j => th j || decide (j ∈ (zah gs n th).1.take i)) = some k
 | 0, th, i, k, h => by simp [zah] at h
 | n + 1, th, i, k, h => by
  cases hf : zaE gs th with
  | none => simp [zah, hf] at h
  | some k0 =>
   rw [zcl hf] at h ⊢
   cases i with
   | zero =>
    simp only [List.getElem?_cons_zero, Option.some.injEq] at h
    subst h
    simp only [List.take_zero, List.not_mem_nil, decide_false, Bool.or_false]
    exact hf
   | succ i =>
    rw [List.getElem?_cons_succ] at h
    have := zg2 gs n (updB th k0) i k h
    rw [← this]
    congr 1
    funext j
    simp only [List.take_succ_cons, List.mem_cons, updB, Bool.decide_or]
    cases th j <;> cases decide (j = k0) <;> rfl
theorem zg3 (gs : List Gt) : ∀ (n : Nat) (th : Nat → Bool), (zah gs n th).1.Nodup ∧ ∀ x ∈ (zah gs n th).1, th x = false
 | 0, th => ⟨List.nodup_nil, fun x hx => by cases hx⟩
 | n + 1, th => by
  cases hf : zaE gs th with
  | none => rw [zdj hf]; exact ⟨List.nodup_nil, fun x hx => by cases hx⟩
  | some k0 =>
   rw [zcl hf]
   obtain ⟨h1, h2⟩ := zg3 gs n (updB th k0)
   have h3 := (zg1 hf).2.1
   refine ⟨List.nodup_cons.2 ⟨fun hm => ?_, h1⟩, fun x hx => ?_⟩
   ·have := h2 k0 hm
    rw [zmt] at this
    cases this
   ·rcases List.mem_cons.1 hx with rfl | hx
    ·exact h3
    ·have := h2 x hx
     unfold updB at this
     simp only [Bool.or_eq_false_iff] at this
     exact this.2
theorem zg4 (gs : List Gt) : ∀ (n : Nat) (th : Nat → Bool), (zah gs n th).1.length = n ∨ zaE gs (zah gs n th).2 = none
 | 0, th => .inl rfl
 | n + 1, th => by
  cases hf : zaE gs th with
  | none => rw [zdj hf]; exact .inr hf
  | some k0 =>
   rw [zcl hf]
   rcases zg4 gs n (updB th k0) with h | h
   ·exact .inl (by rw [List.length_cons, h])
   ·exact .inr h
theorem zkg {n : Nat} {l : List Nat} (hn : l.Nodup) (hl : ∀ x ∈ l, x < n) (h : n ≤ l.length) : ∀ j, j < n → j ∈ l := fun j hj => by
 by_cases hm : j ∈ l
 ·exact hm
 ·have := zil (n := n) (List.nodup_cons.2 ⟨hm, hn⟩) (fun x hx => by
   rcases List.mem_cons.1 hx with rfl | hx
   ·exact hj
   ·exact hl x hx)
  rw [List.length_cons] at this
  omega
theorem zed (gs : List Gt) : SortOk gs (zZ gs).1 := by
 have h1 := (zd5 gs gs.length zar).2
 have h2 := (zg3 gs gs.length zar).1
 refine ⟨h1, h2, fun i k h => ?_, ?_⟩
 ·have := zg2 gs gs.length zar i k h
  exact this
 ·have he : (zZ gs).2 = zal (zZ gs).1 := funext fun k => zeS gs k
  rcases zg4 gs gs.length zar with h | h
  ·refine List.find?_range_eq_none.2 fun j hj => ?_
   have hm := zkg h2 h1 (Nat.le_of_eq h.symm) j hj
   unfold zbn zal
   rw [show (decide (j ∈ (zZ gs).1)) = true from decide_eq_true hm]
   rfl
  ·rw [← he]
   exact h
theorem SortOk.one {gs : List Gt} {l : List Nat} (h : SortOk gs l) : l = (zZ gs).1 := by
 have h2 := zed gs
 have key : ∀ i, l.take i = (zZ gs).1.take i := fun i => by
  induction i with
  | zero => rfl
  | succ i ih =>
   rw [List.take_add_one, List.take_add_one, ih]
   congr 2
   cases ha : l[i]? with
   | some k =>
    have h3 := h.at_ i k ha
    cases hb : (zZ gs).1[i]? with
    | some k2 =>
     have h4 := h2.at_ i k2 hb
     rw [ih, h4] at h3
     exact h3.symm
    | none =>
     have := h2.stop
     rw [List.take_of_length_le (l := (zZ gs).1) (List.getElem?_eq_none_iff.1 hb)] at ih
     rw [ih, this] at h3
     cases h3
   | none =>
    cases hb : (zZ gs).1[i]? with
    | none => rfl
    | some k2 =>
     have h4 := h2.at_ i k2 hb
     have := h.stop
     rw [List.take_of_length_le (l := l) (List.getElem?_eq_none_iff.1 ha)] at ih
     rw [ih, h4] at this
     cases this
 have := key (max l.length (zZ gs).1.length)
 rwa [List.take_of_length_le (by omega), List.take_of_length_le (by omega)] at this
theorem zkh {gs : List Gt} {th : Nat → Bool} {k : Nat} (h : zcX gs th k = false) {s : ByteArray} (hs : s ∈ (gat gs k).ins) {j : Nat} (hj : j < gs.length) (e : (gat gs j).name = s) : th j = true := by
 unfold zcX at h
 have := List.any_eq_false.1 h s hs
 cases ht : th j with
 | true => rfl
 | false => exact absurd ((zck gs th s).2 ⟨j, hj, e, ht⟩) this
theorem SortOk.ins {gs : List Gt} {l : List Nat} (h : SortOk gs l) {i k : Nat} (hi : l[i]? = some k) {s : ByteArray} (hs : s ∈ (gat gs k).ins) {j : Nat} (hj : j < gs.length) (e : (gat gs j).name = s) : j ∈ l.take i := by
 have := zkh (zg1 (h.at_ i k hi)).2.2 hs hj e
 unfold zal at this
 exact of_decide_eq_true this
theorem zg5 (gs : List Gt) : (zZ gs).1.length + (za1 gs).length = gs.length := by
 rw [← zdv]
 unfold za7
 rw [List.length_map]
 have h1 := zed gs
 have h2 := zeH (fun _ => true) (zal (zZ gs).1) (List.range gs.length)
 simp only [Bool.true_and] at h2
 rw [List.filter_eq_self.2 (fun _ _ => rfl), List.length_range] at h2
 have h3 : ((List.range gs.length).filter fun x => zal (zZ gs).1 x).length = (zZ gs).1.length := by
  refine List.Perm.length_eq ((List.perm_ext_iff_of_nodup (List.nodup_range.filter _) h1.nodup).2 fun x => ?_)
  rw [List.mem_filter, List.mem_range]
  unfold zal
  rw [decide_eq_true_eq]
  exact ⟨fun h => h.2, fun h => ⟨h1.lt x h, h⟩⟩
 omega
def plC (c : Ci) (s : ByteArray) : Int := ixI (fun x => decide (x = s)) (z2 c)
theorem zfg {gs : List Gt} {k : Nat} (h : k < gs.length) : gs[k]? = some (gat gs k) := by
 unfold gat
 rw [List.getD_eq_getElem?_getD, List.getElem?_eq_getElem h]
 rfl
theorem zki {l : List ByteArray} (hn : l.Nodup) {k : Nat} {s : ByteArray} (h : l[k]? = some s) : ixI (fun x => decide (x = s)) l = k :=
 zeo h (decide_eq_true rfl) fun j y hj hy => decide_eq_false fun e => by
  subst e
  have hjl := (List.getElem?_eq_some_iff.1 hy).1
  have := (List.getElem?_inj hjl hn).1 (hy.trans h.symm)
  omega
theorem zcN {c : Ci} {k : Nat} (hk : k < c.gts.length) : gat c.gts k ∈ c.gts := List.mem_of_getElem? (zfg hk)
end Go.Proofs.YtbhoeanfnbkenaaGreatDoor
namespace Go.Proofs.YtbhoeanfnbkenaaGreatDoor
open Go.RowKit
set_option maxRecDepth 100000
set_option linter.unusedSimpArgs false
structure MayC (c : Ci) : Prop where
 lim : zaX c = false
 nms : ∀ s ∈ zas c, zaW s = true
 nts : (z2 c).Nodup
 outs : c.outs.Nodup
 las : ∀ x ∈ c.las, zbU x = true
 gts : ∀ g ∈ c.gts, zaM g = true
 used : ∀ s ∈ zbh c, s ∈ z2 c
theorem zg6 : ∀ (l pre : List ByteArray), l.Nodup → (∀ x ∈ l, x ∉ pre) → zbu pre l = none
 | [], _, _, _ => rfl
 | y :: l, pre, hn, hd => by
  rw [List.nodup_cons] at hn
  unfold zbu
  rw [if_neg (hd y List.mem_cons_self)]
  refine zg6 l _ hn.2 fun x hx hm => ?_
  rcases List.mem_append.1 hm with h | h
  ·exact hd x (List.mem_cons_of_mem _ hx) h
  ·rw [List.mem_singleton] at h
   exact hn.1 (h ▸ hx)
theorem zg7 (l : List ByteArray) : zaL l = none ↔ l.Nodup :=
 ⟨fun h => (zd3 _ [] (Option.map_eq_none_iff.1 h)).1, fun h => by unfold zaL; rw [zg6 l [] h (fun _ _ hx => by cases hx)]; rfl⟩
theorem zkj (c : Ci) : zay c = none ↔ MayC c := by
 have h1 : za5 c = none ↔ zaX c = false := by
  unfold za5
  cases zaX c <;> simp
 have h2 : zap (zas c) = none ↔ ∀ s ∈ zas c, zaW s = true := by
  unfold zap
  rw [Option.map_eq_none_iff, List.find?_eq_none]
  simp
 have h5 : zcq c = none ↔ (∀ x ∈ c.las, zbU x = true) ∧ ∀ g ∈ c.gts, zaM g = true := by
  unfold zcq
  rw [Option.or_eq_none_iff, Option.map_eq_none_iff, Option.map_eq_none_iff, List.find?_eq_none, List.find?_eq_none]
  simp
 have h6 : zcG c = none ↔ ∀ s ∈ zbh c, s ∈ z2 c := by
  unfold zcG
  rw [Option.map_eq_none_iff, List.find?_eq_none]
  simp
 unfold zay
 rw [Option.or_eq_none_iff, Option.or_eq_none_iff, Option.or_eq_none_iff, Option.or_eq_none_iff, Option.or_eq_none_iff, h1, h2, zg7, zg7, h5, h6]
 exact ⟨fun ⟨a, b, d, e, ⟨f, g⟩, h⟩ => ⟨a, b, d, e, f, g, h⟩, fun ⟨a, b, d, e, f, g, h⟩ => ⟨a, b, d, e, ⟨f, g⟩, h⟩⟩
theorem zkk {c : Ci} {w : Int × ByteArray} (h : zay c = some w) : w.1 ≠ 0 := by
 unfold zay at h
 simp only [Option.or_eq_some_iff] at h
 rcases h with h | ⟨_, h | ⟨_, h | ⟨_, h | ⟨_, h | ⟨_, h⟩⟩⟩⟩⟩
 ·unfold za5 at h
  split at h
  ·cases h; decide
  ·cases h
 ·obtain ⟨s, _, rfl⟩ := Option.map_eq_some_iff.1 h; simp
 ·obtain ⟨s, _, rfl⟩ := Option.map_eq_some_iff.1 h; simp
 ·obtain ⟨s, _, rfl⟩ := Option.map_eq_some_iff.1 h; simp
 ·unfold zcq at h
  rcases Option.or_eq_some_iff.1 h with h | ⟨_, h⟩
  ·obtain ⟨s, _, rfl⟩ := Option.map_eq_some_iff.1 h; simp
  ·obtain ⟨s, _, rfl⟩ := Option.map_eq_some_iff.1 h; simp
 ·obtain ⟨s, _, rfl⟩ := Option.map_eq_some_iff.1 h; simp
theorem zcx (c : Ci) : (zai c).1 = 0 ↔ MayC c := by
 rw [← zkj]
 unfold zai
 cases h : zay c with
 | none => exact ⟨fun _ => rfl, fun _ => rfl⟩
 | some w => exact ⟨fun e => absurd e (zkk h), fun e => by cases e⟩
theorem MayC.may {c : Ci} (h : MayC c) : May c := ⟨h.nts⟩
theorem zca (c : Ci) : (zav c).1 = 0 ↔ MayC c ∧ za1 c.gts = [] := by
 unfold zav
 by_cases h0 : (zai c).1 = 0
 ·rw [if_pos h0]
  have := (zcx c).1 h0
  cases h : za1 c.gts with
  | nil => simp [this]
  | cons x l => simp
 ·rw [if_neg h0]
  exact ⟨fun h => absurd h h0, fun h => absurd ((zcx c).2 h.1) h0⟩
end Go.Proofs.YtbhoeanfnbkenaaGreatDoor
namespace Go.Proofs.YtbhoeanfnbkenaaGreatDoor
open Go.RowKit
set_option maxRecDepth 100000
set_option linter.unusedSimpArgs false
theorem Rch.mono {L : ByteArray → Option (List ByteArray)} {a b : List ByteArray} (h : ∀ s ∈ a, s ∈ b) {s : ByteArray} (hr : Rch L a s) : Rch L b s := by
 induction hr with
 | base h1 h2 => exact .base (h _ h1) h2
 | step _ h1 h2 h3 ih => exact .step ih h1 h2 h3
end Go.Proofs.YtbhoeanfnbkenaaGreatDoor
