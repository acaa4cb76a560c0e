import Derived.Test.YtbhoeanfnbkenaaGreatDoorR10
namespace Go.Proofs.YtbhoeanfnbkenaaGreatDoor
open Go.RowKit
set_option maxRecDepth 100000
set_option linter.unusedSimpArgs false
def zcf (a b : ByteArray) : Bool := decide (a = b)
theorem zcg (a b : ByteArray) : zcf a b = true ↔ a = b := decide_eq_true_iff
theorem zig (a : ByteArray) : zcf a a = true := decide_eq_true rfl
def zcA (gs : List Gt) : List ByteArray := gs.map (·.name)
def zdj (l : List ByteArray) (s : ByteArray) : Bool := l.any fun x => zcf x s
theorem zeJ (l : List ByteArray) (s : ByteArray) : zdj l s = true ↔ s ∈ l := by
 unfold zdj
 rw [List.any_eq_true]
 exact ⟨fun ⟨x, hx, e⟩ => (zcg x s).1 e ▸ hx, fun h => ⟨s, h, zig s⟩⟩
def gt0 : Gt := ⟨ByteArray.empty, 0, [], [], false⟩
def gat (gs : List Gt) (k : Nat) : Gt := gs.getD k gt0
def zb2 (gs : List Gt) : Prop := ∀ i j, i < gs.length → j < gs.length → (gat gs i).name = (gat gs j).name → i = j
def zaO (gs : List Gt) (th : Nat → Bool) (s : ByteArray) : Bool := (List.range gs.length).any fun k => zcf (gat gs k).name s && !th k
def zcX (gs : List Gt) (th : Nat → Bool) (k : Nat) : Bool := (gat gs k).ins.any (zaO gs th)
def zbn (gs : List Gt) (th : Nat → Bool) (k : Nat) : Bool := !th k && !zcX gs th k
def zaF (gs : List Gt) (th : Nat → Bool) : Option Nat := (List.range gs.length).find? (zbn gs th)
def updB (th : Nat → Bool) (k : Nat) : Nat → Bool := fun j => decide (j = k) || th j
def zah (gs : List Gt) : Nat → (Nat → Bool) → List Nat × (Nat → Bool)
 | 0, th => ([], th)
 | n + 1, th => match zaF gs th with
  | none => ([], th)
  | some k => (k :: (zah gs n (updB th k)).1, (zah gs n (updB th k)).2)
def zaq : Nat → Bool := fun _ => false
def zZ (gs : List Gt) : List Nat × (Nat → Bool) := zah gs gs.length zaq
def za0 (gs : List Gt) : List ByteArray := ((List.range gs.length).filter fun k => !(zZ gs).2 k).map fun k => (gat gs k).name
theorem zch (gs : List Gt) (th : Nat → Bool) (s : ByteArray) : zaO gs th s = true ↔ ∃ k, k < gs.length ∧ (gat gs k).name = s ∧ th k = false := by
 unfold zaO
 simp only [List.any_eq_true, List.mem_range, Bool.and_eq_true, Bool.not_eq_true', zcg]
def zaG (gs : List Gt) (th : Nat → Bool) (k : Nat) : Nat := ((gat gs k).ins.filter (zaO gs th)).length
theorem zfE (gs : List Gt) (th : Nat → Bool) (k : Nat) : zaG gs th k = 0 ↔ zcX gs th k = false := by
 unfold zaG zcX
 rw [List.length_eq_zero_iff, List.filter_eq_nil_iff, List.any_eq_false]
def cnt (l : List ByteArray) (s : ByteArray) : Nat := (l.filter fun x => zcf x s).length
theorem zlY {gs : List Gt} {th : Nat → Bool} {k : Nat} (hu : zb2 gs) (hk : k < gs.length) (s : ByteArray) : zaO gs (updB th k) s = (zaO gs th s && !zcf s (gat gs k).name) := by
 rw [Bool.eq_iff_iff, Bool.and_eq_true, zch, zch, Bool.not_eq_true', ← Bool.not_eq_true, zcg]
 constructor
 ·rintro ⟨j, hj, e, ht⟩
  unfold updB at ht
  simp only [Bool.or_eq_false_iff, decide_eq_false_iff_not] at ht
  exact ⟨⟨j, hj, e, ht.2⟩, fun e2 => ht.1 (hu j k hj hk (e.trans e2))⟩
 ·rintro ⟨⟨j, hj, e, ht⟩, hne⟩
  refine ⟨j, hj, e, ?_⟩
  unfold updB
  rw [ht, Bool.or_false, decide_eq_false_iff_not]
  rintro rfl
  exact hne e.symm
theorem zeK {α : Type} (p q : α → Bool) : ∀ l : List α, (l.filter p).length = (l.filter fun x => p x && !q x).length + (l.filter fun x => p x && q x).length
 | [] => rfl
 | x :: l => by
  have h := zeK p q l
  cases hp : p x <;> cases hq : q x <;> simp [hp, hq, h] <;> omega
theorem zih {gs : List Gt} {th : Nat → Bool} {k : Nat} (hu : zb2 gs) (hk : k < gs.length) (ht : th k = false) (i : Nat) : zaG gs th i = zaG gs (updB th k) i + cnt (gat gs i).ins (gat gs k).name := by
 unfold zaG cnt
 rw [zeK (zaO gs th) (fun s => zcf s (gat gs k).name)]
 congr 2
 ·exact List.filter_congr fun s _ => (zlY hu hk s).symm
 ·refine List.filter_congr fun s _ => ?_
  cases h : zcf s (gat gs k).name
  ·rw [Bool.and_false]
  ·rw [Bool.and_true]
   exact (zch _ _ _).2 ⟨k, hk, ((zcg _ _).1 h).symm, ht⟩
def za8 (gs : List Gt) (s : ByteArray) (n : Nat) : List Nat := (List.range n).flatMap fun i => List.replicate (cnt (gat gs i).ins s) i
theorem zfF (gs : List Gt) (s : ByteArray) (n : Nat) : za8 gs s (n + 1) = za8 gs s n ++ List.replicate (cnt (gat gs n).ins s) n := by
 unfold za8
 rw [List.range_succ, List.flatMap_append]
 simp
theorem zii (gs : List Gt) (s : ByteArray) (i : Nat) : ∀ n, (za8 gs s n).count i = if i < n then cnt (gat gs i).ins s else 0
 | 0 => by simp [za8]
 | n + 1 => by
  rw [zfF, List.count_append, zii gs s i n, List.count_replicate]
  simp only [beq_iff_eq]
  by_cases h2 : n = i
  ·subst h2
   simp
  ·rw [if_neg h2]
   by_cases h : i < n
   ·rw [if_pos h, if_pos (show i < n + 1 by omega)]
    omega
   ·rw [if_neg h, if_neg (show ¬ i < n + 1 by omega)]
theorem zlZ (gs : List Gt) (s : ByteArray) (n : Nat) : ∀ i ∈ za8 gs s n, i < n := by
 intro i hi
 unfold za8 at hi
 rw [List.mem_flatMap] at hi
 obtain ⟨j, hj, hm⟩ := hi
 rw [List.mem_replicate] at hm
 rw [hm.2]
 exact List.mem_range.1 hj
structure Ready (n : Nat) (gone : Nat → Bool) (lk : Nat → Nat) (r : List Int) : Prop where
 nodup : r.Nodup
 mem : ∀ x : Int, x ∈ r ↔ ∃ i : Nat, x = (i : Int) ∧ i < n ∧ gone i = false ∧ lk i = 0
theorem zl0 {gs : List Gt} {th : Nat → Bool} {r : List Int} {k : Nat} (hr : Ready gs.length th (zaG gs th) r) (hk : (k : Int) ∈ r) (hm : ∀ x ∈ r, (k : Int) ≤ x) : zaF gs th = some k := by
 obtain ⟨i, e, h1, h2, h3⟩ := (hr.mem _).1 hk
 obtain rfl : k = i := by omega
 refine List.find?_range_eq_some.2 ⟨?_, List.mem_range.2 h1, fun j hj => ?_⟩
 ·unfold zbn
  rw [h2, (zfE gs th k).1 h3]
  rfl
 ·cases hf : zbn gs th j
  ·rfl
  ·unfold zbn at hf
   simp only [Bool.and_eq_true, Bool.not_eq_true'] at hf
   have := hm (j : Int) ((hr.mem _).2 ⟨j, rfl, by omega, hf.1, (zfE gs th j).2 hf.2⟩)
   omega
theorem zl1 {gs : List Gt} {th : Nat → Bool} (hr : Ready gs.length th (zaG gs th) []) : zaF gs th = none := by
 refine List.find?_range_eq_none.2 fun j hj => ?_
 cases hf : zbn gs th j
 ·rfl
 ·unfold zbn at hf
  simp only [Bool.and_eq_true, Bool.not_eq_true'] at hf
  have := (hr.mem (j : Int)).2 ⟨j, rfl, hj, hf.1, (zfE gs th j).2 hf.2⟩
  cases this
theorem Ready.pop {n : Nat} {gone : Nat → Bool} {lk : Nat → Nat} {r r' : List Int} {k : Nat} (h : Ready n gone lk r) (hp : ((k : Int) :: r').Perm r) : Ready n (updB gone k) lk r' := by
 have hn : ((k : Int) :: r').Nodup := hp.symm.nodup h.nodup
 rw [List.nodup_cons] at hn
 refine ⟨hn.2, fun x => ?_⟩
 constructor
 ·intro hx
  obtain ⟨i, e, h1, h2, h3⟩ := (h.mem x).1 (hp.mem_iff.1 (List.mem_cons_of_mem _ hx))
  refine ⟨i, e, h1, ?_, h3⟩
  unfold updB
  rw [h2, Bool.or_false, decide_eq_false_iff_not]
  rintro rfl
  exact hn.1 (e ▸ hx)
 ·rintro ⟨i, e, h1, h2, h3⟩
  unfold updB at h2
  simp only [Bool.or_eq_false_iff, decide_eq_false_iff_not] at h2
  have hx := hp.mem_iff.2 ((h.mem x).2 ⟨i, e, h1, h2.2, h3⟩)
  rcases List.mem_cons.1 hx with h4 | h4
  ·omega
  ·exact h4
theorem Ready.less {n : Nat} {gone : Nat → Bool} {lk lk' : Nat → Nat} {r : List Int} (h : Ready n gone lk r) {i : Nat} (h1 : ∀ j, j ≠ i → lk' j = lk j) (h2 : lk i ≠ 0) (h3 : lk' i ≠ 0) : Ready n gone lk' r := by
 refine ⟨h.nodup, fun x => (h.mem x).trans ⟨?_, ?_⟩⟩
 ·rintro ⟨j, e, a, b, c⟩
  exact ⟨j, e, a, b, by rw [h1 j (fun e2 => h2 (e2 ▸ c))]; exact c⟩
 ·rintro ⟨j, e, a, b, c⟩
  exact ⟨j, e, a, b, by rw [← h1 j (fun e2 => h3 (e2 ▸ c))]; exact c⟩
theorem Ready.push {n : Nat} {gone : Nat → Bool} {lk lk' : Nat → Nat} {r r' : List Int} (h : Ready n gone lk r) {i : Nat} (h1 : ∀ j, j ≠ i → lk' j = lk j) (h2 : lk i ≠ 0) (h3 : lk' i = 0) (hi : i < n) (hg : gone i = false) (hp : r'.Perm ((i : Int) :: r)) : Ready n gone lk' r' := by
 have hn : ¬ (i : Int) ∈ r := fun hm => by
  obtain ⟨j, e, _, _, c⟩ := (h.mem _).1 hm
  obtain rfl : i = j := by omega
  exact h2 c
 refine ⟨hp.symm.nodup (List.nodup_cons.2 ⟨hn, h.nodup⟩), fun x => (hp.mem_iff).trans ⟨?_, ?_⟩⟩
 ·intro hx
  rcases List.mem_cons.1 hx with rfl | hx
  ·exact ⟨i, rfl, hi, hg, h3⟩
  ·obtain ⟨j, e, a, b, c⟩ := (h.mem x).1 hx
   exact ⟨j, e, a, b, by rw [h1 j (fun e2 => h2 (e2 ▸ c))]; exact c⟩
 ·rintro ⟨j, e, a, b, c⟩
  by_cases e2 : j = i
  ·subst e2
   rw [e]
   exact List.mem_cons_self
  ·exact List.mem_cons_of_mem _ ((h.mem x).2 ⟨j, e, a, b, by rw [← h1 j e2]; exact c⟩)
theorem Ready.grow {n : Nat} {gone : Nat → Bool} {lk lk' : Nat → Nat} {r : List Int} (h : Ready n gone lk r) (h1 : ∀ j, j < n → lk' j = lk j) (h3 : lk' n ≠ 0) : Ready (n + 1) gone lk' r := by
 refine ⟨h.nodup, fun x => (h.mem x).trans ⟨?_, ?_⟩⟩
 ·rintro ⟨j, e, a, b, c⟩
  exact ⟨j, e, by omega, b, by rw [h1 j a]; exact c⟩
 ·rintro ⟨j, e, a, b, c⟩
  have : j ≠ n := fun e2 => h3 (e2 ▸ c)
  exact ⟨j, e, by omega, b, by rw [← h1 j (by omega)]; exact c⟩
theorem Ready.growPush {n : Nat} {gone : Nat → Bool} {lk lk' : Nat → Nat} {r r' : List Int} (h : Ready n gone lk r) (h1 : ∀ j, j < n → lk' j = lk j) (h3 : lk' n = 0) (hg : gone n = false) (hp : r'.Perm ((n : Int) :: r)) : Ready (n + 1) gone lk' r' := by
 have hn : ¬ (n : Int) ∈ r := fun hm => by
  obtain ⟨j, e, a, _, c⟩ := (h.mem _).1 hm
  omega
 refine ⟨hp.symm.nodup (List.nodup_cons.2 ⟨hn, h.nodup⟩), fun x => (hp.mem_iff).trans ⟨?_, ?_⟩⟩
 ·intro hx
  rcases List.mem_cons.1 hx with rfl | hx
  ·exact ⟨n, rfl, by omega, hg, h3⟩
  ·obtain ⟨j, e, a, b, c⟩ := (h.mem x).1 hx
   exact ⟨j, e, by omega, b, by rw [h1 j a]; exact c⟩
 ·rintro ⟨j, e, a, b, c⟩
  by_cases e2 : j = n
  ·subst e2
   rw [e]
   exact List.mem_cons_self
  ·exact List.mem_cons_of_mem _ ((h.mem x).2 ⟨j, e, by omega, b, by rw [← h1 j (by omega)]; exact c⟩)
theorem zfG : ∀ (n : Nat) (l : List Int), l.Nodup → (∀ x ∈ l, 0 ≤ x ∧ x < (n : Int)) → l.length ≤ n
 | 0, l, _, h => by
  cases l with
  | nil => simp
  | cons x l => have := h x List.mem_cons_self; omega
 | n + 1, l, hn, h => by
  have h1 := zfG n (l.filter (fun x => !decide (x = (n : Int)))) (hn.filter _) (fun x hx => by
   rw [List.mem_filter] at hx
   have h2 := h x hx.1
   have h3 : ¬ x = (n : Int) := by simpa using hx.2
   omega)
  have h2 := zeK (fun _ : Int => true) (fun x => decide (x = (n : Int))) l
  have h3 : (l.filter fun x => true && decide (x = (n : Int))).length ≤ 1 := by
   have h4 := List.nodup_iff_count.1 hn (n : Int)
   rw [List.count_eq_countP, List.countP_eq_length_filter] at h4
   refine Nat.le_trans (Nat.le_of_eq ?_) h4
   congr 1
  have h5 : (l.filter fun x => true && !decide (x = (n : Int))).length ≤ n := h1
  have h6 : (l.filter fun _ => true).length = l.length := by rw [List.filter_eq_self.2 (fun _ _ => rfl)]
  omega
theorem Ready.len {n : Nat} {gone : Nat → Bool} {lk : Nat → Nat} {r : List Int} (h : Ready n gone lk r) : r.length ≤ n :=
 zfG n r h.nodup fun x hx => by
  obtain ⟨i, e, h1, _⟩ := (h.mem x).1 hx
  omega
theorem Ready.congr {n : Nat} {gone : Nat → Bool} {lk lk' : Nat → Nat} {r : List Int} (h : Ready n gone lk r) (h1 : ∀ j, j < n → lk' j = lk j) : Ready n gone lk' r := by
 refine ⟨h.nodup, fun x => (h.mem x).trans ⟨?_, ?_⟩⟩
 ·rintro ⟨j, e, a, b, c⟩
  exact ⟨j, e, a, b, by rw [h1 j a]; exact c⟩
 ·rintro ⟨j, e, a, b, c⟩
  exact ⟨j, e, a, b, by rw [← h1 j a]; exact c⟩
theorem Ready.start (gone : Nat → Bool) (lk : Nat → Nat) : Ready 0 gone lk [] := ⟨List.nodup_nil, fun x => ⟨(fun h => by cases h), (fun ⟨i, _, h, _⟩ => absurd h (Nat.not_lt_zero i))⟩⟩
def zaf (l : List Nat) : List Int := l.map fun i : Nat => (i : Int)
def za9 (N : Nat) (lk : Nat → Nat) : List Int := (List.range N).map fun i : Nat => (lk i : Int)
theorem zl2 (N : Nat) (lk : Nat → Nat) : (za9 N lk).length = N := by simp [za9]
theorem zl3 {N : Nat} {lk lk' : Nat → Nat} {i : Nat} {x : Int} (_ : i < N) (h1 : ∀ j, j ≠ i → lk' j = lk j) (h2 : x = (lk' i : Int)) : (za9 N lk).set i x = za9 N lk' := by
 unfold za9
 apply List.ext_getElem (by simp)
 intro j a b
 simp only [List.getElem_set, List.getElem_map, List.getElem_range]
 by_cases e : i = j
 ·subst e
  rw [if_pos rfl, h2]
 ·rw [if_neg e, h1 j (fun e2 => e e2.symm)]
def lkI (gs : List Gt) (i p : Nat) : Nat → Nat := fun j => if j < i then zaG gs zaq j else if j = i then (((gat gs i).ins.take p).filter (zaO gs zaq)).length else 0
def wtI (gs : List Gt) (i p : Nat) (s : ByteArray) : List Int := if zaO gs zaq s = true then zaf (za8 gs s i ++ List.replicate (cnt ((gat gs i).ins.take p) s) i) else []
theorem zl4 (gs : List Gt) (i p : Nat) (h : (gat gs i).ins.length ≤ p) : ∀ j, j < i + 1 → lkI gs (i + 1) 0 j = lkI gs i p j := by
 intro j hj
 unfold lkI
 by_cases h1 : j < i
 ·rw [if_pos hj, if_pos h1]
 ·have : j = i := by omega
  subst this
  rw [if_pos hj, if_neg h1, if_pos rfl, List.take_of_length_le h]
  rfl
theorem zij (gs : List Gt) (i j : Nat) (h : i < j) (p : Nat) : lkI gs i p j = 0 := by
 unfold lkI
 rw [if_neg (by omega), if_neg (by omega)]
theorem zl5 (gs : List Gt) (i p : Nat) (h : (gat gs i).ins.length ≤ p) : lkI gs (i + 1) 0 = lkI gs i p := by
 funext j
 by_cases hj : j < i + 1
 ·exact zl4 gs i p h j hj
 ·rw [zij gs i j (by omega)]
  by_cases e : j = i + 1
  ·subst e
   unfold lkI
   rw [if_neg (by omega), if_pos rfl]
   rfl
  ·exact zij gs (i + 1) j (by omega) 0
theorem zl6 (gs : List Gt) (i p : Nat) (h : (gat gs i).ins.length ≤ p) : wtI gs (i + 1) 0 = wtI gs i p := by
 funext s
 unfold wtI
 rw [List.take_of_length_le h, zfF]
 simp [cnt]
theorem zik (gs : List Gt) : wtI gs 0 0 = fun _ => [] := by
 funext s
 unfold wtI za8
 simp [cnt, zaf]
theorem zl7 (gs : List Gt) (j : Nat) : lkI gs 0 0 j = 0 := by
 unfold lkI
 rw [if_neg (by omega)]
 split <;> rfl
theorem zil {α : Type} {f : α → Bool} {l : List α} {p : Nat} {x : α} (hx : l[p]? = some x) (h : f x = true) : ((l.take (p + 1)).filter f).length = ((l.take p).filter f).length + 1 := by
 rw [List.take_add_one, hx, List.filter_append]
 simp [h]
theorem zfH {α : Type} {f : α → Bool} {l : List α} {p : Nat} {x : α} (hx : l[p]? = some x) (h : f x = false) : ((l.take (p + 1)).filter f).length = ((l.take p).filter f).length := by
 rw [List.take_add_one, hx, List.filter_append]
 simp [h]
theorem zl8 {gs : List Gt} {i p : Nat} {x : ByteArray} (hx : (gat gs i).ins[p]? = some x) (h : zaO gs zaq x = true) : (∀ j, j ≠ i → lkI gs i (p + 1) j = lkI gs i p j) ∧ lkI gs i (p + 1) i = lkI gs i p i + 1 := by
 unfold lkI
 refine ⟨fun j hj => ?_, ?_⟩
 ·rw [if_neg hj, if_neg hj]
 ·rw [if_neg (by omega), if_pos rfl, if_neg (by omega), if_pos rfl, zil hx h]
theorem zl9 {gs : List Gt} {i p : Nat} {x : ByteArray} (hx : (gat gs i).ins[p]? = some x) (h : zaO gs zaq x = false) : lkI gs i (p + 1) = lkI gs i p := by
 funext j
 unfold lkI
 rw [zfH hx h]
theorem zdX {gs : List Gt} {i p : Nat} {x : ByteArray} (hx : (gat gs i).ins[p]? = some x) (h : zaO gs zaq x = true) : wtI gs i (p + 1) x = wtI gs i p x ++ [(i : Int)] ∧ ∀ t, t ≠ x → wtI gs i (p + 1) t = wtI gs i p t := by
 have e1 : cnt ((gat gs i).ins.take (p + 1)) x = cnt ((gat gs i).ins.take p) x + 1 := zil hx (zig x)
 refine ⟨?_, fun t ht => ?_⟩
 ·unfold wtI
  rw [if_pos h, if_pos h, e1, List.replicate_succ', ← List.append_assoc]
  unfold zaf
  rw [List.map_append]
  rfl
 ·have e2 : cnt ((gat gs i).ins.take (p + 1)) t = cnt ((gat gs i).ins.take p) t := zfH hx (by rw [← Bool.not_eq_true, zcg]; exact fun e => ht e.symm)
  unfold wtI
  rw [e2]
theorem zma {gs : List Gt} {i p : Nat} {x : ByteArray} (hx : (gat gs i).ins[p]? = some x) (h : zaO gs zaq x = false) : wtI gs i (p + 1) = wtI gs i p := by
 funext t
 unfold wtI
 by_cases e : t = x
 ·subst e
  rw [h]
  rfl
 ·have e2 : cnt ((gat gs i).ins.take (p + 1)) t = cnt ((gat gs i).ins.take p) t := zfH hx (by rw [← Bool.not_eq_true, zcg]; exact fun e3 => e e3.symm)
  rw [e2]
theorem zfI (gs : List Gt) (s : ByteArray) : zaO gs zaq s = zdj (zcA gs) s := by
 rw [Bool.eq_iff_iff, zch, zeJ]
 unfold zcA
 rw [List.mem_map]
 constructor
 ·rintro ⟨k, hk, e, _⟩
  refine ⟨gat gs k, ?_, e⟩
  unfold gat
  rw [List.getD_eq_getElem?_getD, List.getElem?_eq_getElem hk]
  exact List.getElem_mem hk
 ·rintro ⟨g, hg, e⟩
  obtain ⟨k, hk, rfl⟩ := List.getElem_of_mem hg
  refine ⟨k, hk, ?_, rfl⟩
  unfold gat
  rw [List.getD_eq_getElem?_getD, List.getElem?_eq_getElem hk]
  exact e
theorem zmb {gs : List Gt} {th : Nat → Bool} {r : List Int} (h : Ready gs.length th (zaG gs th) r) (hh : zaC r r.length) (h0 : 0 < r.length) : ∃ k : Nat, gd r 0 = (k : Int) ∧ k < gs.length ∧ th k = false ∧ zaG gs th k = 0 ∧ zaF gs th = some k := by
 have hm : gd r 0 ∈ r := by rw [zc4 r 0 h0]; exact List.getElem_mem h0
 obtain ⟨k, e, h1, h2, h3⟩ := (h.mem _).1 hm
 refine ⟨k, e, h1, h2, h3, zl0 h (e ▸ hm) fun x hx => ?_⟩
 obtain ⟨j, hj, rfl⟩ := List.getElem_of_mem hx
 have := zjv hh j hj
 rw [zc4 r j hj, e] at this
 exact this
theorem zmc {gs : List Gt} {th : Nat → Bool} {k : Nat} (hf : zaG gs th k = 0) (hg : ∀ j, j < gs.length → th j = true → zaG gs th j = 0) : ∀ j, j < gs.length → updB th k j = true → zaG gs th j = 0 := by
 intro j hj h
 unfold updB at h
 rw [Bool.or_eq_true, decide_eq_true_eq] at h
 rcases h with rfl | h
 ·exact hf
 ·exact hg j hj h
theorem zci {gs : List Gt} {n : Nat} {th : Nat → Bool} {k : Nat} (h : zaF gs th = some k) : zah gs (n + 1) th = (k :: (zah gs n (updB th k)).1, (zah gs n (updB th k)).2) := by
 rw [zah, h]
theorem zdk {gs : List Gt} {th : Nat → Bool} (h : zaF gs th = none) : ∀ n, zah gs n th = ([], th)
 | 0 => rfl
 | n + 1 => by rw [zah, h]
theorem zim (gs : List Gt) : ∀ (n : Nat) (th : Nat → Bool) (x : Nat), (zah gs n th).2 x = (th x || decide (x ∈ (zah gs n th).1))
 | 0, th, x => by simp [zah]
 | n + 1, th, x => by
  cases h : zaF gs th with
  | none => simp [zah, h]
  | some k =>
   rw [zci h, zim gs n (updB th k) x]
   unfold updB
   simp only [List.mem_cons]
   by_cases e : x = k
   ·subst e; simp
   ·simp [e]
theorem zin {n : Nat} {l : List Nat} (h : l.Nodup) (hl : ∀ x ∈ l, x < n) : l.length ≤ n := by
 have h1 : (zaf l).Nodup := by
  unfold zaf
  rw [List.nodup_iff_pairwise_ne] at h ⊢
  exact List.pairwise_map.2 (h.imp fun e e2 => e (by omega))
 have h2 := zfG n (zaf l) h1 (fun x hx => by
  unfold zaf at hx
  obtain ⟨i, hi, rfl⟩ := List.mem_map.1 hx
  have := hl i hi
  omega)
 unfold zaf at h2
 rwa [List.length_map] at h2
end Go.Proofs.YtbhoeanfnbkenaaGreatDoor
namespace Go.Proofs.YtbhoeanfnbkenaaGreatDoor
open Go.RowKit Go.WideMaps
set_option maxRecDepth 100000
set_option linter.unusedSimpArgs false
def gT (g : Gt) : List T := [.s g.name, .i .i64 g.op, .sl (sR g.ins), .sl (rR g.rows), .b g.off]
theorem zmd {gs : List Gt} {th : Nat → Bool} {s : ByteArray} (h : ∀ j, j < gs.length → (gat gs j).name = s → th j = true) : zaO gs th s = false := by
 rw [← Bool.not_eq_true, zch]
 rintro ⟨k, hk, e, ht⟩
 rw [h k hk e] at ht
 cases ht
end Go.Proofs.YtbhoeanfnbkenaaGreatDoor
