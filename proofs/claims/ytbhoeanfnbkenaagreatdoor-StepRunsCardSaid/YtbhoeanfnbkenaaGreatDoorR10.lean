import Derived.Test.YtbhoeanfnbkenaaGreatDoorR1
namespace Go.Proofs.YtbhoeanfnbkenaaGreatDoor
open Go.RowKit
set_option maxRecDepth 100000
def gd (l : List Int) (k : Nat) : Int := l.getD k 0
def zaz (l : List Int) (i j : Nat) : List Int := (l.set i (gd l j)).set j (gd l i)
theorem zbw (l : List Int) (i j : Nat) : (zaz l i j).length = l.length := by simp [zaz]
theorem zgw (l : List Int) (i k : Nat) (x : Int) (hi : i < l.length) : gd (l.set i x) k = if k = i then x else gd l k := by
 unfold gd
 rw [List.getD_eq_getElem?_getD, List.getD_eq_getElem?_getD, List.getElem?_set]
 by_cases h : i = k
 ·subst h
  rw [if_pos rfl, if_pos hi, if_pos rfl]
  rfl
 ·rw [if_neg h, if_neg (fun e => h e.symm)]
theorem zbx (l : List Int) (i j k : Nat) (hi : i < l.length) (hj : j < l.length) : gd (zaz l i j) k = if k = j then gd l i else if k = i then gd l j else gd l k := by
 unfold zaz
 rw [zgw _ _ _ _ (by simpa using hj), zgw _ _ _ _ hi]
theorem zc4 (l : List Int) (k : Nat) (h : k < l.length) : gd l k = l[k] := by
 unfold gd
 rw [List.getD_eq_getElem?_getD, List.getElem?_eq_getElem h]
 rfl
theorem ze3 (l : List Int) (i j : Nat) (hi : i < l.length) (hj : j < l.length) : (zaz l i j).Perm l := by
 have h := Array.swap_perm (xs := l.toArray) (i := i) (j := j) (by simpa using hi) (by simpa using hj)
 have h2 := h.toList
 rw [Array.toList_swap] at h2
 unfold zaz
 rw [zc4 l i hi, zc4 l j hj]
 simpa using h2
def par (c : Nat) : Nat := (c - 1) / 2
def zaC (l : List Int) (n : Nat) : Prop := ∀ c, 0 < c → c < n → gd l (par c) ≤ gd l c
theorem zjv {l : List Int} {n : Nat} (h : zaC l n) : ∀ k, k < n → gd l 0 ≤ gd l k := by
 intro k
 induction k using Nat.strongRecOn with
 | ind k ih =>
  intro hk
  by_cases h0 : k = 0
  ·subst h0; exact Int.le_refl _
  ·have hp : par k < k := by unfold par; omega
   exact Int.le_trans (ih (par k) hp (by omega)) (h k (by omega) hk)
structure UpInv (l : List Int) (j : Nat) : Prop where
 lt : j < l.length
 rest : ∀ c, 0 < c → c < l.length → c ≠ j → gd l (par c) ≤ gd l c
 over : ∀ c, 0 < j → 0 < c → c < l.length → par c = j → gd l (par j) ≤ gd l c
theorem UpInv.done {l : List Int} {j : Nat} (h : UpInv l j) (hd : j = 0 ∨ ¬ gd l j < gd l (par j)) : zaC l l.length := by
 intro c h0 hc
 by_cases e : c = j
 ·subst e
  rcases hd with hd | hd
  ·omega
  ·omega
 ·exact h.rest c h0 hc e
theorem UpInv.step {l : List Int} {j : Nat} (h : UpInv l j) (hj : j ≠ 0) (hl : gd l j < gd l (par j)) : UpInv (zaz l (par j) j) (par j) := by
 have hp : par j < j := by unfold par; omega
 have hlt := h.lt
 refine ⟨by rw [zbw]; omega, fun c h0 hc hne => ?_, fun c h0 h1 hc hpc => ?_⟩
 ·rw [zbw] at hc
  rw [zbx l _ _ _ (by omega) hlt, zbx l _ _ _ (by omega) hlt]
  by_cases e : c = j
  ·subst e
   rw [if_pos rfl, if_neg (by omega), if_pos rfl]
   omega
  ·rw [if_neg e, if_neg hne]
   by_cases e2 : par c = j
   ·rw [if_pos e2]
    exact h.over c (by omega) h0 hc e2
   ·rw [if_neg e2]
    by_cases e3 : par c = par j
    ·rw [if_pos e3]
     have := h.rest c h0 hc e
     rw [e3] at this
     omega
    ·rw [if_neg e3]
     exact h.rest c h0 hc e
 ·rw [zbw] at hc
  have hpp : par (par j) < par j := by unfold par at h0 ⊢; omega
  rw [zbx l _ _ _ (by omega) hlt, zbx l _ _ _ (by omega) hlt, if_neg (by omega), if_neg (by omega)]
  have h2 := h.rest (par j) h0 (by omega) (by omega)
  by_cases e : c = j
  ·subst e
   rw [if_pos rfl]
   exact h2
  ·have e2 : c ≠ par j := fun e2 => by rw [e2] at hpc; omega
   rw [if_neg e, if_neg e2]
   have h3 := h.rest c h1 hc e
   rw [hpc] at h3
   exact Int.le_trans h2 h3
theorem UpInv.start {l : List Int} {x : Int} (h : zaC l l.length) : UpInv (l ++ [x]) l.length := by
 have g : ∀ k, k < l.length → gd (l ++ [x]) k = gd l k := fun k hk => by
  unfold gd
  rw [List.getD_eq_getElem?_getD, List.getD_eq_getElem?_getD, List.getElem?_append_left hk]
 refine ⟨by simp, fun c h0 hc hne => ?_, fun c h0 h1 hc hpc => ?_⟩
 ·simp at hc
  rw [g c (by omega), g (par c) (by unfold par; omega)]
  exact h c h0 (by omega)
 ·simp at hc
  unfold par at hpc
  omega
structure DnInv (l : List Int) (n i : Nat) : Prop where
 le : n ≤ l.length
 rest : ∀ c, 0 < c → c < n → par c ≠ i → gd l (par c) ≤ gd l c
 over : ∀ c, 0 < i → 0 < c → c < n → par c = i → gd l (par i) ≤ gd l c
theorem DnInv.done {l : List Int} {n i : Nat} (h : DnInv l n i) (hd : ∀ c, 0 < c → c < n → par c = i → gd l i ≤ gd l c) : zaC l n := by
 intro c h0 hc
 by_cases e : par c = i
 ·rw [e]; exact hd c h0 hc e
 ·exact h.rest c h0 hc e
def kid (l : List Int) (n i : Nat) : Nat := if 2 * i + 1 + 1 < n ∧ gd l (2 * i + 1 + 1) < gd l (2 * i + 1) then 2 * i + 1 + 1 else 2 * i + 1
theorem zjw (l : List Int) (n i : Nat) : par (kid l n i) = i := by
 unfold kid par
 split <;> omega
theorem zgx {l : List Int} {n i : Nat} (h : 2 * i + 1 < n) : kid l n i < n := by
 unfold kid
 split <;> omega
theorem zgy (l : List Int) (n i : Nat) : i < kid l n i := by
 unfold kid
 split <;> omega
theorem zgz {l : List Int} {n i c : Nat} (h0 : 0 < c) (hc : c < n) (hp : par c = i) : gd l (kid l n i) ≤ gd l c := by
 have hcc : c = 2 * i + 1 ∨ c = 2 * i + 1 + 1 := by unfold par at hp; omega
 unfold kid
 split
 ·rename_i h
  rcases hcc with rfl | rfl
  ·omega
  ·exact Int.le_refl _
 ·rename_i h
  rcases hcc with rfl | rfl
  ·exact Int.le_refl _
  ·have : ¬ gd l (2 * i + 1 + 1) < gd l (2 * i + 1) := fun h2 => h ⟨hc, h2⟩
   omega
theorem DnInv.leaf {l : List Int} {n i : Nat} (h : DnInv l n i) (hn : ¬ 2 * i + 1 < n) : zaC l n :=
 h.done fun c h0 hc hp => by unfold par at hp; omega
theorem DnInv.rest' {l : List Int} {n i : Nat} (h : DnInv l n i) (hl : ¬ gd l (kid l n i) < gd l i) : zaC l n :=
 h.done fun c h0 hc hp => by have := zgz (l := l) h0 hc hp; omega
theorem DnInv.step {l : List Int} {n i : Nat} (h : DnInv l n i) (hn : 2 * i + 1 < n) (hl : gd l (kid l n i) < gd l i) : DnInv (zaz l i (kid l n i)) n (kid l n i) := by
 obtain ⟨j, hj⟩ : ∃ j, kid l n i = j := ⟨_, rfl⟩
 have hjp := zjw l n i
 have hjl := zgx (l := l) hn
 have hjg := zgy l n i
 have hjm : ∀ c, 0 < c → c < n → par c = i → gd l (kid l n i) ≤ gd l c := fun c a b d => zgz a b d
 rw [hj] at hl hjp hjl hjg hjm ⊢
 have hle := h.le
 refine ⟨by rw [zbw]; exact hle, fun c h0 hc hne => ?_, fun c h0 h1 hc hpc => ?_⟩
 ·rw [zbx l _ _ _ (by omega) (by omega), zbx l _ _ _ (by omega) (by omega), if_neg hne]
  by_cases e : par c = i
  ·rw [if_pos e]
   by_cases e2 : c = j
   ·rw [if_pos e2]; omega
   ·rw [if_neg e2, if_neg (by unfold par at e; omega)]
    exact hjm c h0 hc e
  ·rw [if_neg e]
   by_cases e2 : c = j
   ·rw [e2] at e; exact absurd hjp e
   ·rw [if_neg e2]
    by_cases e3 : c = i
    ·rw [if_pos e3]
     subst e3
     exact h.over j h0 (by omega) hjl hjp
    ·rw [if_neg e3]
     exact h.rest c h0 hc e
 ·rw [hjp, zbx l _ _ _ (by omega) (by omega), zbx l _ _ _ (by omega) (by omega), if_neg (by omega), if_pos rfl]
  have hcj : j < c := by unfold par at hpc; omega
  rw [if_neg (by omega), if_neg (by omega)]
  have := h.rest c h1 hc (by omega)
  rw [hpc] at this
  exact this
theorem DnInv.start {l : List Int} (h : zaC l l.length) (h0 : 0 < l.length) : DnInv (zaz l 0 (l.length - 1)) (l.length - 1) 0 := by
 refine ⟨by rw [zbw]; omega, fun c h1 hc hne => ?_, fun c h1 => by omega⟩
 rw [zbx l _ _ _ (by omega) (by omega), zbx l _ _ _ (by omega) (by omega), if_neg (by unfold par; omega), if_neg hne, if_neg (by omega), if_neg (by omega)]
 exact h c h1 (by omega)
theorem zjx {l : List Int} {n : Nat} (h : zaC l n) (hn : n ≤ l.length) : zaC (l.take n) (l.take n).length := by
 have hl : (l.take n).length = n := by rw [List.length_take]; omega
 have g : ∀ k, k < n → gd (l.take n) k = gd l k := fun k hk => by
  unfold gd
  rw [List.getD_eq_getElem?_getD, List.getD_eq_getElem?_getD, List.getElem?_take_of_lt hk]
 intro c h0 hc
 rw [hl] at hc
 rw [g c hc, g (par c) (by unfold par; omega)]
 exact h c h0 hc
theorem zjy {l : List Int} {n : Nat} (hn : l.length = n + 1) : l = l.take n ++ [gd l n] := by
 have h := List.take_append_drop n l
 have h2 : l.drop n = [gd l n] := by
  rw [zc4 l n (by omega), List.drop_eq_getElem_cons (by omega), List.drop_of_length_le (by omega)]
 rw [h2] at h
 exact h.symm
theorem zjz {l l2 : List Int} {n : Nat} (hn : l.length = n + 1) (hp : l2.Perm (zaz l 0 n)) (he : gd l2 n = gd (zaz l 0 n) n) : (gd l 0 :: l2.take n).Perm l := by
 have h1 : gd (zaz l 0 n) n = gd l 0 := by rw [zbx l _ _ _ (by omega) (by omega), if_pos rfl]
 have hl2 : l2.length = n + 1 := by rw [hp.length_eq, zbw, hn]
 have h2 := zjy hl2
 rw [he, h1] at h2
 have h3 : l2.Perm (gd l 0 :: l2.take n) := by
  have : (l2.take n ++ [gd l 0]).Perm (gd l 0 :: l2.take n) := List.perm_append_comm (l₁ := l2.take n) (l₂ := [gd l 0])
  rwa [← h2] at this
 exact (h3.symm.trans hp).trans (ze3 l 0 n (by omega) (by omega))
theorem zjA (j : Nat) : Int.tdiv ((j : Int) - 1) 2 = ((par j : Nat) : Int) := by
 unfold par
 cases j with
 | zero => rfl
 | succ k =>
  rw [show ((k + 1 : Nat) : Int) - 1 = (k : Int) by omega, show k + 1 - 1 = k by omega]
  rfl
end Go.Proofs.YtbhoeanfnbkenaaGreatDoor
namespace Go.Proofs.YtbhoeanfnbkenaaGreatDoor
open Go.RowKit
set_option maxRecDepth 100000
set_option linter.unusedSimpArgs false
section
variable {P : Program}
theorem zjB (t : TypeId) (a : Addr) (nm : String) (w : World) : (Builtin.ssaWrapNilChk_ #[t] t #[.pointer (some a), strVal "", strVal nm]).run P w = .ok (.pointer (some a)) w := rfl
end
theorem zjC (w : World) : (typeInfo 123).run Tryz.prog w = .ok (Tryz.prog.types[123]'(by decide +kernel)) w := by kernel_rfl
theorem zjD {a : Addr} {w : World} {v : Value} (h : w.cell? a = some v) (nm : String) : (receiverAt 123 (.val (.pointer (some a))) false (some nm)).run Tryz.prog w = .ok v w := by
 simp [receiverAt, Place.get, zjB, go_sem, h]
theorem ze4 {nm : String} {f : Nat} (hm : ((Tryz.prog.types[123]'(by decide +kernel)).methods.find? (·.name == nm)).map (fun m => (m.path, m.func)) = some (#[], some (f, false))) (a : Addr) (w : World) (v : Value) (h : w.cell? a = some v) :
  (method (Tryz.prog.types.size + Made.depth) 123 (.pointer (some a)) nm).run Tryz.prog w = .ok (f, v) w := by
 obtain ⟨k, hk⟩ : ∃ k, Tryz.prog.types.size + Made.depth = k + 1 := ⟨_, rfl⟩
 rw [hk]
 obtain ⟨m, h1, h2⟩ := Option.map_eq_some_iff.1 hm
 obtain ⟨h3, h4⟩ := Prod.mk.inj h2
 unfold method
 simp only [Sem.run_bind, zjC, Result.andThen_ok, h1, h3, h4]
 simp [follow, go_sem, zjD h]
variable (Hy : World → Prop)
attribute [local irreducible] zU zY cwp z1 z6 lpQ z8 asQ bdQ bdY zab zac zad zaa
abbrev hpT : TypeId := 123
theorem zjE {o : Nat → O} {g : Nat} (h : g = (o 900).gen) : Mth Tryz.prog Hy hpT (.ptr 900 g 0) o "Push" 160 (.ptr 900 g 0) := zgK (fun a w => by kernel_rfl) h
theorem zjF {o : Nat → O} {g : Nat} (h : g = (o 900).gen) : Mth Tryz.prog Hy hpT (.ptr 900 g 0) o "Pop" 159 (.ptr 900 g 0) := zgK (fun a w => by kernel_rfl) h
def iR (l : List Int) : List (List T) := l.map fun x => [.i .i64 x]
theorem ze5 (l : List Int) : (iR l).length = l.length := List.length_map _
attribute [go_sem] ze5
theorem zcr {l : List Int} {k : Nat} {x : Int} (h : l[k]? = some x) : (iR l)[k]? = some [.i .i64 x] := by unfold iR; rw [List.getElem?_map, h]; rfl
theorem ze6 (l : List Int) (k : Nat) (x : Int) : (iR l).set k [.i .i64 x] = iR (l.set k x) := by unfold iR; rw [List.map_set]
theorem zjG (l : List Int) (k : Nat) : (iR l).take k = iR (l.take k) := List.map_take.symm
theorem zdz (a b : List Int) : iR (a ++ b) = iR a ++ iR b := List.map_append
theorem zc5 {l : List Int} {k : Nat} (h : k < l.length) : l[k]? = some (gd l k) := by
 rw [List.getElem?_eq_getElem h, zc4 l k h]
structure HpS (o : Nat → O) (gb : Nat) (rest : List A) (r : List Int) : Prop where
 ex : ∃ gh, o 900 = ⟨gb, .cells 120 (.row 901 gh :: rest)⟩ ∧ o 901 = ⟨gh, .row 3 1 (iR r)⟩
def FrH (o o' : Nat → O) : Prop := ∀ i, i ≠ 900 → i ≠ 901 → (i < 6800 ∨ 6900 ≤ i) → o' i = o i
theorem FrH.refl (o : Nat → O) : FrH o o := fun _ _ _ _ => rfl
theorem FrH.trans {o o1 o2 : Nat → O} (h : FrH o o1) (k : FrH o1 o2) : FrH o o2 := fun i h1 h2 h3 => (k i h1 h2 h3).trans (h i h1 h2 h3)
theorem zgA {n : Nat} {F : Nat → A} {G : Nat → O} {ts : List (Nat × A)} {os : List (Nat × O)} (h : (os.all fun p => p.1 == 900 || (p.1 == 901 || (decide (6800 ≤ p.1) && decide (p.1 < 6900)))) = true) : FrH G (nf n F G ts os).o := fun i h1 h2 h3 => zaY fun p hp e => by
 obtain ⟨q, hq, rfl⟩ := List.mem_map.1 hp
 have := List.all_eq_true.1 h q hq
 simp only [Bool.or_eq_true, beq_iff_eq, Bool.and_eq_true, decide_eq_true_eq] at this
 omega
theorem zgB {o : Nat → O} {gb gh : Nat} {rest : List A} (h : o 900 = ⟨gb, .cells 120 (.row 901 gh :: rest)⟩) : Mth Tryz.prog Hy hpT (.ptr 900 gb 0) o "Len" 91 (.row 901 gh) := zfc (fun a w v hv => ze4 (by kernel_rfl) a w v hv) (by rw [h]) (by rw [h]) rfl
theorem zdA {o : Nat → O} {gb gh : Nat} {rest : List A} (h : o 900 = ⟨gb, .cells 120 (.row 901 gh :: rest)⟩) : Mth Tryz.prog Hy hpT (.ptr 900 gb 0) o "Less" 157 (.row 901 gh) := zfc (fun a w v hv => ze4 (by kernel_rfl) a w v hv) (by rw [h]) (by rw [h]) rfl
theorem zdB {o : Nat → O} {gb gh : Nat} {rest : List A} (h : o 900 = ⟨gb, .cells 120 (.row 901 gh :: rest)⟩) : Mth Tryz.prog Hy hpT (.ptr 900 gb 0) o "Swap" 158 (.row 901 gh) := zfc (fun a w v hv => ze4 (by kernel_rfl) a w v hv) (by rw [h]) (by rw [h]) rfl
theorem ze7 {o : Nat → O} {gh : Nat} {r : List Int} (h : o 901 = ⟨gh, .row 3 1 (iR r)⟩) : Cm Tryz.prog Hy 91 [.row 901 gh] o fun rs o' => rs = [.t (.i .i64 r.length)] ∧ o' = o := by
 refine zax (cls := _root_.id) zB zD Tryz.func91 rfl (by decide) (Nat.le_of_ble_eq_true rfl) ?_
 rw [show Tryz.f91.ntmps = 5 from rfl, zC]
 simp only [List.zipIdx_cons, List.zipIdx_nil, List.map_cons, List.map_nil, Nat.reduceAdd]
 repeat' first | apply zg | refine zf rfl fun K E hK hE => ?_ | (refine za fun κ η => ?_; simp only [go_sem, simprocAttr, h]; refine η _ ?_; clear η κ) | (refine zd (hK _ ?_); clear hE hK E K) | apply zb | apply zk | (apply zm; apply zn; simp only [go_sem, simprocAttr, h])
theorem zdC {o : Nat → O} {gh : Nat} {r : List Int} (h : o 901 = ⟨gh, .row 3 1 (iR r)⟩) (i j : Nat) (hi : i < r.length) (hj : j < r.length) : Cm Tryz.prog Hy 157 [.row 901 gh, .t (.i .i64 i), .t (.i .i64 j)] o fun rs o' => rs = [.t (.b (decide (gd r i < gd r j)))] ∧ o' = o := by
 have h1 := zcr (zc5 hi)
 have h2 := zcr (zc5 hj)
 refine zax (cls := _root_.id) zB zD Tryz.func157 rfl (by decide) (Nat.le_of_ble_eq_true rfl) ?_
 rw [show Tryz.f157.ntmps = 16 from rfl, zC]
 simp only [List.zipIdx_cons, List.zipIdx_nil, List.map_cons, List.map_nil, Nat.reduceAdd]
 repeat' first | apply zg | refine zf rfl fun K E hK hE => ?_ | refine zG rfl (by kernel_rfl) fun K E hK hE => ?_ | ((first | refine za fun κ η => ?_ | refine zr (by kernel_rfl) fun κ η => ?_); simp only [go_sem, simprocAttr, h, h1, h2, Int.toNat_natCast]; (repeat refine ⟨by omega, ?_⟩); refine η _ ?_; clear η κ) | (refine zd (hK _ ?_); clear hE hK E K) | apply zb | (refine zH (hK _ ?_); clear hE hK E K) | apply zk | (apply zm; apply zn; simp only [go_sem, simprocAttr, h, h1, h2, Int.toNat_natCast])
theorem zdD {o : Nat → O} {gh : Nat} {r : List Int} (h : o 901 = ⟨gh, .row 3 1 (iR r)⟩) (i j : Nat) (hi : i < r.length) (hj : j < r.length) : Cm Tryz.prog Hy 158 [.row 901 gh, .t (.i .i64 i), .t (.i .i64 j)] o fun rs o' => rs = [] ∧ o' = obx o 901 ⟨gh, .row 3 1 (iR (zaz r i j))⟩ := by
 have h1 := zcr (zc5 hi)
 have h2 := zcr (zc5 hj)
 have s1 := ze6 r i (gd r j)
 have s2 := ze6 (r.set i (gd r j)) j (gd r i)
 have g2 : (iR (r.set i (gd r j)))[j]? = some [.i .i64 (gd (r.set i (gd r j)) j)] := zcr (zc5 (by rw [List.length_set]; exact hj))
 refine zax (cls := _root_.id) zB zD Tryz.func158 rfl (by decide) (Nat.le_of_ble_eq_true rfl) ?_
 rw [show Tryz.f158.ntmps = 20 from rfl, zC]
 simp only [List.zipIdx_cons, List.zipIdx_nil, List.map_cons, List.map_nil, Nat.reduceAdd]
 repeat' first | refine zG rfl (by kernel_rfl) fun K E hK hE => ?_ | (refine zr (by kernel_rfl) fun κ η => ?_; simp only [go_sem, simprocAttr, h, h1, h2, s1, s2, g2, Int.toNat_natCast, List.length_set]; (repeat refine ⟨by omega, ?_⟩); refine η _ ?_; clear η κ) | (refine zH (hK _ ?_); clear hE hK E K) | (apply zQ; apply zP; simp only [go_sem, simprocAttr, h, h1, h2, s1, s2, g2, Int.toNat_natCast, List.length_set])
 refine funext fun k => ?_
 rw [za7]
 by_cases hk : k = 901
 ·subst hk; rfl
 ·simp only [zae, obx, hk, if_false]
theorem HpS.swap {o : Nat → O} {gb gh : Nat} {rest : List A} (h : o 900 = ⟨gb, .cells 120 (.row 901 gh :: rest)⟩) (r' : List Int) : HpS (obx o 901 ⟨gh, .row 3 1 (iR r')⟩) gb rest r' ∧ FrH o (obx o 901 ⟨gh, .row 3 1 (iR r')⟩) :=
 ⟨⟨gh, h, rfl⟩, fun _ _ h2 _ => if_neg h2⟩
theorem zjH {o : Nat → O} {gb : Nat} {rest : List A} {r : List Int} (h : HpS o gb rest r) (hr : r.length ≤ 1000000) (x : Int) : Cm Tryz.prog Hy 160 [.ptr 900 gb 0, .t (.ifc 3 (.i .i64 x))] o fun rs o' => rs = [] ∧ HpS o' gb rest (r ++ [x]) ∧ FrH o o' := by
 obtain ⟨gh, h1, h2⟩ := h.ex
 refine zax (cls := fun d => 6800 + d) zB zD Tryz.func160 rfl (by decide) (Nat.le_of_ble_eq_true rfl) ?_
 rw [show Tryz.f160.ntmps = 13 from rfl, zC]
 simp only [List.zipIdx_cons, List.zipIdx_nil, List.map_cons, List.map_nil, Nat.reduceAdd]
 repeat' first | refine zG rfl (by kernel_rfl) fun K E hK hE => ?_ | (refine zr (by kernel_rfl) fun κ η => ?_; simp only [go_sem, simprocAttr, h1, h2]; (repeat refine ⟨by omega, ?_⟩); refine η _ ?_; clear η κ) | (refine zH (hK _ ?_); clear hE hK E K) | (apply zQ; apply zP; simp only [go_sem, simprocAttr, h1, h2])
 exact ⟨⟨_, rfl, by rw [zdz]; rfl⟩, zgA rfl⟩
theorem zjI {o : Nat → O} {gb n : Nat} {rest : List A} {r : List Int} (h : HpS o gb rest r) (hr : r.length ≤ 1000000) (hn : r.length = n + 1) : Cm Tryz.prog Hy 159 [.ptr 900 gb 0] o fun rs o' => rs = [.t (.ifc 3 (.i .i64 (gd r n)))] ∧ HpS o' gb rest (r.take n) ∧ FrH o o' := by
 obtain ⟨gh, h1, h2⟩ := h.ex
 have g1 := zcr (zc5 (show n < r.length by omega))
 have e1 : ((r.length : Int) - 1) = n := by omega
 have tk := zjG r n
 refine zax (cls := fun d => 6800 + d) zB zD Tryz.func159 rfl (by decide) (Nat.le_of_ble_eq_true rfl) ?_
 rw [show Tryz.f159.ntmps = 27 from rfl, zC]
 simp only [List.zipIdx_cons, List.zipIdx_nil, List.map_cons, List.map_nil, Nat.reduceAdd]
 repeat' first | apply zg | refine zf rfl fun K E hK hE => ?_ | refine zG rfl (by kernel_rfl) fun K E hK hE => ?_ | ((first | refine za fun κ η => ?_ | refine zr (by kernel_rfl) fun κ η => ?_); simp only [go_sem, simprocAttr, h1, h2, e1, g1, Int.toNat_natCast, tk]; (repeat refine ⟨by (first | omega | exact ⟨_, rfl, rfl⟩), ?_⟩); refine η _ ?_; clear η κ) | (refine zd (hK _ ?_); clear hE hK E K) | apply zb | (refine zH (hK _ ?_); clear hE hK E K) | apply zk | (apply zm; apply zn; simp only [go_sem, simprocAttr, h1, h2, e1, g1, Int.toNat_natCast, tk])
 exact ⟨⟨_, rfl, rfl⟩, zgA rfl⟩
abbrev hpI (gb : Nat) : A := .ifc hpT (.ptr 900 gb 0)
theorem zjJ {j : Nat} (h : j ≠ 0) : par j < j := by unfold par; omega
set_option maxHeartbeats 2000000 in
theorem zjK {o : Nat → O} {gb : Nat} {rest : List A} {r : List Int} (h : HpS o gb rest r) (hr : r.length ≤ 1000000) (j : Nat) (hj : j < r.length) (hu : UpInv r j) : Cm Tryz.prog Hy 121 [hpI gb, .t (.i .i64 j)] o fun rs o' => rs = [] ∧ ∃ r', zaC r' r'.length ∧ r'.Perm r ∧ HpS o' gb rest r' ∧ FrH o o' := by
 refine zax (cls := fun d => 6800 + d) zB zD Tryz.func121 rfl (by decide) (Nat.le_of_ble_eq_true rfl) ?_
 rw [show Tryz.f121.ntmps = 23 from rfl, zC]
 simp only [List.zipIdx_cons, List.zipIdx_nil, List.map_cons, List.map_nil, Nat.reduceAdd]
 repeat' apply zj
 refine zW (fun m s' => ∃ l, m < l.length ∧ UpInv l m ∧ l.Perm r ∧ ∃ F G0, s' = nf 23 F G0 [(0, hpI gb), (1, .t (.i .i64 m))] [] ∧ HpS G0 gb rest l ∧ FrH o G0) j ?_ ?_
 ·exact ⟨r, hj, hu, List.Perm.refl _, _, _, zp rfl ⟨rfl, rfl, trivial⟩ trivial, h, FrH.refl _⟩
 rintro m s' ⟨l, hm, hul, hp, F, G0, rfl, hS, hF⟩
 obtain ⟨gh, h1, h2⟩ := hS.ex
 have htd := zjA m
 have hll := hp.length_eq
 by_cases h0 : m = 0
 ·have hpe : ((par m : Nat) : Int) = m := by rw [h0]; rfl
  repeat' first | apply zg | apply zj | refine zf rfl fun K E hK hE => ?_ | ((first | refine za fun κ η => ?_ | refine zo rfl fun κ η => ?_); simp only [go_sem, simprocAttr, htd, eq_true hpe]; (repeat refine ⟨by omega, ?_⟩); refine η _ ?_; clear η κ) | (refine zd (hK _ ?_); clear hE hK E K) | apply zb | refine zh true rfl (fun _ => ?_) (fun h => (by cases h)) | apply zt | apply zu | apply zw | refine zR rfl ?_ | apply zx | (apply zQ; apply zP; simp only [go_sem, simprocAttr, htd, eq_true hpe])
  exact ⟨l, hul.done (.inl h0), hp, hS, hF⟩
 ·have hlt := zjJ h0
  have hpe : (((par m : Nat) : Int) = m) = False := eq_false (by omega)
  repeat' first | apply zg | apply zj | refine zf rfl fun K E hK hE => ?_ | ((first | refine za fun κ η => ?_ | refine zo rfl fun κ η => ?_); simp only [go_sem, simprocAttr, htd, hpe]; (repeat refine ⟨by omega, ?_⟩); refine η _ ?_; clear η κ) | (refine zd (hK _ ?_); clear hE hK E K) | apply zb
  refine zaj fun κ η => ?_; simp only [go_sem, simprocAttr]; refine ⟨_, _, _, zdA Hy h1, zdC Hy h2 m (par m) hm (by omega), ?_⟩; rintro _ o1 ⟨rfl, rfl⟩; simp only [go_sem, simprocAttr]; refine η _ ?_; clear η κ
  by_cases hl : gd l m < gd l (par m)
  ·repeat' first | apply zg | refine zf rfl fun K E hK hE => ?_ | ((first | refine za fun κ η => ?_ | refine zo rfl fun κ η => ?_); simp only [go_sem, simprocAttr, eq_true hl, decide_true]; refine η _ ?_; clear η κ) | (refine zd (hK _ ?_); clear hE hK E K) | apply zb | refine zh false rfl (fun h => (by cases h)) fun _ => ?_ | apply zi
   refine zaj fun κ η => ?_; simp only [go_sem, simprocAttr]; refine ⟨_, _, _, zdB Hy h1, zdD Hy h2 (par m) m (by omega) hm, ?_⟩; rintro _ o1 ⟨rfl, rfl⟩; simp only [go_sem, simprocAttr]; refine η _ ?_; clear η κ
   repeat' first | refine zf rfl fun K E hK hE => ?_ | (refine za fun κ η => ?_; simp only [go_sem, simprocAttr]; refine η _ ?_; clear η κ) | (refine zd (hK _ ?_); clear hE hK E K) | apply zb | apply zq | apply zs
   have hs := HpS.swap h1 (zaz l (par m) m)
   exact ⟨par m, hlt, zaz l (par m) m, by rw [zbw]; omega, hul.step h0 hl, (ze3 l (par m) m (by omega) hm).trans hp, _, _, zp rfl ⟨rfl, rfl, trivial⟩ trivial, hs.1, hF.trans hs.2⟩
  ·repeat' first | ((first | refine za fun κ η => ?_ | refine zo rfl fun κ η => ?_); simp only [go_sem, simprocAttr, eq_false hl, decide_false]; refine η _ ?_; clear η κ) | (refine zd (hK _ ?_); clear hE hK E K) | apply zb | refine zh true rfl (fun _ => ?_) (fun h => (by cases h)) | apply zt | apply zu | apply zw | refine zR rfl ?_ | apply zx | (apply zQ; apply zP; simp only [go_sem, simprocAttr, eq_false hl, decide_false])
   exact ⟨l, hul.done (.inr hl), hp, hS, hF⟩
set_option maxHeartbeats 4000000 in
theorem zjL {o : Nat → O} {gb : Nat} {rest : List A} {r : List Int} (h : HpS o gb rest r) (hr : r.length ≤ 1000000) (n : Nat) (hn : n < r.length) (hu : DnInv r n 0) : Cm Tryz.prog Hy 107 [hpI gb, .t (.i .i64 0), .t (.i .i64 n)] o fun rs o' => (∃ b, rs = [.t (.b b)]) ∧ ∃ r', zaC r' n ∧ r'.Perm r ∧ gd r' n = gd r n ∧ HpS o' gb rest r' ∧ FrH o o' := by
 refine zax (cls := fun d => 6800 + d) zB zD Tryz.func107 rfl (by decide) (Nat.le_of_ble_eq_true rfl) ?_
 rw [show Tryz.f107.ntmps = 48 from rfl, zC]
 simp only [List.zipIdx_cons, List.zipIdx_nil, List.map_cons, List.map_nil, Nat.reduceAdd]
 repeat' first | apply zg | apply zj | refine zf rfl fun K E hK hE => ?_ | (refine za fun κ η => ?_; simp only [go_sem, simprocAttr]; refine η _ ?_; clear η κ) | (refine zd (hK _ ?_); clear hE hK E K) | apply zb
 refine zW (fun m s' => ∃ (i : Nat) (l : List Int), m = n - i ∧ i ≤ n ∧ l.length = r.length ∧ DnInv l n i ∧ l.Perm r ∧ gd l n = gd r n ∧ ∃ F G0, s' = nf 48 F G0 [(0, hpI gb), (1, .t (.i .i64 0)), (2, .t (.i .i64 n)), (7, .t (.i .i64 i))] [] ∧ HpS G0 gb rest l ∧ FrH o G0) n ?_ ?_
 ·exact ⟨0, r, by omega, by omega, rfl, hu, List.Perm.refl _, rfl, _, _, zp rfl ⟨rfl, rfl, rfl, rfl, trivial⟩ trivial, h, FrH.refl _⟩
 rintro m s' ⟨i, l, rfl, hin, hl, hd, hp, hgn, F, G0, rfl, hS, hF⟩
 obtain ⟨gh, h1, h2⟩ := hS.ex
 obtain ⟨j1, hj1⟩ : ∃ j1 : Nat, j1 = 2 * i + 1 := ⟨_, rfl⟩
 obtain ⟨j2, hj2⟩ : ∃ j2 : Nat, j2 = j1 + 1 := ⟨_, rfl⟩
 by_cases hend : 2 * i + 1 < n
 ·have e1 : (2 * (i : Int) + 1) = (j1 : Int) := by omega
  have e2 : ((j1 : Int) + 1) = (j2 : Int) := by omega
  have c1 : ((n : Int) ≤ j1) = False := eq_false (by omega)
  have c2 : ((j1 : Int) < 0) = False := eq_false (by omega)
  have hil : i < n := by omega
  have hk := zgx (l := l) hend
  have hki := zgy l n i
  have fin : ∀ (G : Nat → O) (gh : Nat) (F : Nat → A) (ts : List (Nat × A)), G 900 = ⟨gb, .cells 120 (.row 901 gh :: rest)⟩ → FrH o G → gd l (kid l n i) < gd l i → HpS (obx G 901 ⟨gh, .row 3 1 (iR (zaz l i (kid l n i)))⟩) gb rest (zaz l i (kid l n i)) ∧ FrH o (obx G 901 ⟨gh, .row 3 1 (iR (zaz l i (kid l n i)))⟩) ∧ DnInv (zaz l i (kid l n i)) n (kid l n i) ∧ (zaz l i (kid l n i)).Perm r ∧ gd (zaz l i (kid l n i)) n = gd r n := fun G gh F ts hG hFG hlt =>
   ⟨(HpS.swap hG _).1, hFG.trans (HpS.swap (rest := rest) hG (zaz l i (kid l n i))).2, hd.step hend hlt, (ze3 l i (kid l n i) (by omega) (by omega)).trans hp, by rw [zbx l i (kid l n i) n (by omega) (by omega), if_neg (by omega), if_neg (by omega)]; exact hgn⟩
  by_cases c3 : j2 < n
  ·have c3' : ((j2 : Int) < n) = True := eq_true (by omega)
   repeat' first | apply zg | apply zj | refine zf rfl fun K E hK hE => ?_ | ((first | refine za fun κ η => ?_ | refine zo rfl fun κ η => ?_); simp only [go_sem, simprocAttr, e1, e2, c1, c2, c3']; (repeat refine ⟨by omega, ?_⟩); refine η _ ?_; clear η κ) | (refine zd (hK _ ?_); clear hE hK E K) | apply zb | refine zh false rfl (fun h => (by cases h)) fun _ => ?_ | apply zi
   refine zaj fun κ η => ?_; simp only [go_sem, simprocAttr]; refine ⟨_, _, _, zdA Hy h1, zdC Hy h2 j2 j1 (by omega) (by omega), ?_⟩; rintro _ o1 ⟨rfl, rfl⟩; simp only [go_sem, simprocAttr]; refine η _ ?_; clear η κ
   by_cases c4 : gd l j2 < gd l j1
   ·have hkid : kid l n i = j2 := by unfold kid; rw [if_pos (by rw [← hj1, ← hj2]; exact ⟨c3, c4⟩), ← hj1, ← hj2]
    repeat' first | apply zg | refine zf rfl fun K E hK hE => ?_ | (refine za fun κ η => ?_; simp only [go_sem, simprocAttr, eq_true c4, decide_true]; refine η _ ?_; clear η κ) | (refine zd (hK _ ?_); clear hE hK E K) | apply zb | refine zh true rfl (fun _ => ?_) (fun h => (by cases h))
    refine zaj fun κ η => ?_; simp only [go_sem, simprocAttr]; refine ⟨_, _, _, zdA Hy h1, zdC Hy h2 j2 i (by omega) (by omega), ?_⟩; rintro _ o1 ⟨rfl, rfl⟩; simp only [go_sem, simprocAttr]; refine η _ ?_; clear η κ
    by_cases c5 : gd l j2 < gd l i
    ·repeat' first | apply zg | refine zf rfl fun K E hK hE => ?_ | (refine za fun κ η => ?_; simp only [go_sem, simprocAttr, eq_true c5, decide_true]; refine η _ ?_; clear η κ) | (refine zd (hK _ ?_); clear hE hK E K) | apply zb | refine zh false rfl (fun h => (by cases h)) fun _ => ?_ | apply zi
     refine zaj fun κ η => ?_; simp only [go_sem, simprocAttr]; refine ⟨_, _, _, zdB Hy h1, zdD Hy h2 i j2 (by omega) (by omega), ?_⟩; rintro _ o1 ⟨rfl, rfl⟩; simp only [go_sem, simprocAttr]; refine η _ ?_; clear η κ
     repeat' first | refine zf rfl fun K E hK hE => ?_ | (refine za fun κ η => ?_; simp only [go_sem, simprocAttr]; refine η _ ?_; clear η κ) | (refine zd (hK _ ?_); clear hE hK E K) | apply zb | apply zq | apply zs
     rw [hkid] at fin hk hki
     obtain ⟨f1, f2, f3, f4, f5⟩ := fin _ gh F [] h1 hF c5
     exact ⟨n - j2, by omega, j2, zaz l i j2, rfl, by omega, by rw [zbw]; exact hl, f3, f4, f5, _, _, zp rfl ⟨rfl, rfl, rfl, rfl, trivial⟩ trivial, f1, f2⟩
    ·repeat' first | apply zg | refine zf rfl fun K E hK hE => ?_ | (refine za fun κ η => ?_; simp only [go_sem, simprocAttr, eq_false c5, decide_false]; refine η _ ?_; clear η κ) | (refine zd (hK _ ?_); clear hE hK E K) | apply zb | refine zh true rfl (fun _ => ?_) (fun h => (by cases h)) | apply zt | apply zk | apply zu | apply zw | refine zR rfl ?_ | apply zx | (apply zm; apply zn; simp only [go_sem, simprocAttr, eq_false c5, decide_false])
     exact ⟨⟨_, rfl⟩, l, hd.rest' (by rw [hkid]; exact c5), hp, hgn, hS, hF⟩
   ·have hkid : kid l n i = j1 := by unfold kid; rw [if_neg (by rw [← hj1, ← hj2]; exact fun h => c4 h.2), ← hj1]
    repeat' first | apply zg | refine zf rfl fun K E hK hE => ?_ | (refine za fun κ η => ?_; simp only [go_sem, simprocAttr, eq_false c4, decide_false]; refine η _ ?_; clear η κ) | (refine zd (hK _ ?_); clear hE hK E K) | apply zb | refine zh false rfl (fun h => (by cases h)) fun _ => ?_ | apply zi
    refine zaj fun κ η => ?_; simp only [go_sem, simprocAttr]; refine ⟨_, _, _, zdA Hy h1, zdC Hy h2 j1 i (by omega) (by omega), ?_⟩; rintro _ o1 ⟨rfl, rfl⟩; simp only [go_sem, simprocAttr]; refine η _ ?_; clear η κ
    by_cases c5 : gd l j1 < gd l i
    ·repeat' first | apply zg | refine zf rfl fun K E hK hE => ?_ | (refine za fun κ η => ?_; simp only [go_sem, simprocAttr, eq_true c5, decide_true]; refine η _ ?_; clear η κ) | (refine zd (hK _ ?_); clear hE hK E K) | apply zb | refine zh false rfl (fun h => (by cases h)) fun _ => ?_ | apply zi
     refine zaj fun κ η => ?_; simp only [go_sem, simprocAttr]; refine ⟨_, _, _, zdB Hy h1, zdD Hy h2 i j1 (by omega) (by omega), ?_⟩; rintro _ o1 ⟨rfl, rfl⟩; simp only [go_sem, simprocAttr]; refine η _ ?_; clear η κ
     repeat' first | refine zf rfl fun K E hK hE => ?_ | (refine za fun κ η => ?_; simp only [go_sem, simprocAttr]; refine η _ ?_; clear η κ) | (refine zd (hK _ ?_); clear hE hK E K) | apply zb | apply zq | apply zs
     rw [hkid] at fin hk hki
     obtain ⟨f1, f2, f3, f4, f5⟩ := fin _ gh F [] h1 hF c5
     exact ⟨n - j1, by omega, j1, zaz l i j1, rfl, by omega, by rw [zbw]; exact hl, f3, f4, f5, _, _, zp rfl ⟨rfl, rfl, rfl, rfl, trivial⟩ trivial, f1, f2⟩
    ·repeat' first | apply zg | refine zf rfl fun K E hK hE => ?_ | (refine za fun κ η => ?_; simp only [go_sem, simprocAttr, eq_false c5, decide_false]; refine η _ ?_; clear η κ) | (refine zd (hK _ ?_); clear hE hK E K) | apply zb | refine zh true rfl (fun _ => ?_) (fun h => (by cases h)) | apply zt | apply zk | apply zu | apply zw | refine zR rfl ?_ | apply zx | (apply zm; apply zn; simp only [go_sem, simprocAttr, eq_false c5, decide_false])
     exact ⟨⟨_, rfl⟩, l, hd.rest' (by rw [hkid]; exact c5), hp, hgn, hS, hF⟩
  ·have c3' : ((j2 : Int) < n) = False := eq_false (by omega)
   have hkid : kid l n i = j1 := by unfold kid; rw [if_neg (by rw [← hj1, ← hj2]; exact fun h => c3 h.1), ← hj1]
   repeat' first | apply zg | apply zj | refine zf rfl fun K E hK hE => ?_ | ((first | refine za fun κ η => ?_ | refine zo rfl fun κ η => ?_); simp only [go_sem, simprocAttr, e1, e2, c1, c2, c3']; (repeat refine ⟨by omega, ?_⟩); refine η _ ?_; clear η κ) | (refine zd (hK _ ?_); clear hE hK E K) | apply zb | refine zh false rfl (fun h => (by cases h)) fun _ => ?_ | apply zi
   refine zaj fun κ η => ?_; simp only [go_sem, simprocAttr]; refine ⟨_, _, _, zdA Hy h1, zdC Hy h2 j1 i (by omega) (by omega), ?_⟩; rintro _ o1 ⟨rfl, rfl⟩; simp only [go_sem, simprocAttr]; refine η _ ?_; clear η κ
   by_cases c5 : gd l j1 < gd l i
   ·repeat' first | apply zg | refine zf rfl fun K E hK hE => ?_ | (refine za fun κ η => ?_; simp only [go_sem, simprocAttr, eq_true c5, decide_true]; refine η _ ?_; clear η κ) | (refine zd (hK _ ?_); clear hE hK E K) | apply zb | refine zh false rfl (fun h => (by cases h)) fun _ => ?_ | apply zi
    refine zaj fun κ η => ?_; simp only [go_sem, simprocAttr]; refine ⟨_, _, _, zdB Hy h1, zdD Hy h2 i j1 (by omega) (by omega), ?_⟩; rintro _ o1 ⟨rfl, rfl⟩; simp only [go_sem, simprocAttr]; refine η _ ?_; clear η κ
    repeat' first | refine zf rfl fun K E hK hE => ?_ | (refine za fun κ η => ?_; simp only [go_sem, simprocAttr]; refine η _ ?_; clear η κ) | (refine zd (hK _ ?_); clear hE hK E K) | apply zb | apply zq | apply zs
    rw [hkid] at fin hk hki
    obtain ⟨f1, f2, f3, f4, f5⟩ := fin _ gh F [] h1 hF c5
    exact ⟨n - j1, by omega, j1, zaz l i j1, rfl, by omega, by rw [zbw]; exact hl, f3, f4, f5, _, _, zp rfl ⟨rfl, rfl, rfl, rfl, trivial⟩ trivial, f1, f2⟩
   ·repeat' first | apply zg | refine zf rfl fun K E hK hE => ?_ | (refine za fun κ η => ?_; simp only [go_sem, simprocAttr, eq_false c5, decide_false]; refine η _ ?_; clear η κ) | (refine zd (hK _ ?_); clear hE hK E K) | apply zb | refine zh true rfl (fun _ => ?_) (fun h => (by cases h)) | apply zt | apply zk | apply zu | apply zw | refine zR rfl ?_ | apply zx | (apply zm; apply zn; simp only [go_sem, simprocAttr, eq_false c5, decide_false])
    exact ⟨⟨_, rfl⟩, l, hd.rest' (by rw [hkid]; exact c5), hp, hgn, hS, hF⟩
 ·have e1 : (2 * (i : Int) + 1) = (j1 : Int) := by omega
  have c1 : ((n : Int) ≤ j1) = True := eq_true (by omega)
  repeat' first | apply zg | apply zj | refine zf rfl fun K E hK hE => ?_ | ((first | refine za fun κ η => ?_ | refine zo rfl fun κ η => ?_); simp only [go_sem, simprocAttr, e1, c1]; (repeat refine ⟨by omega, ?_⟩); refine η _ ?_; clear η κ) | (refine zd (hK _ ?_); clear hE hK E K) | apply zb | refine zh true rfl (fun _ => ?_) (fun h => (by cases h)) | apply zt | apply zk | apply zu | apply zw | refine zR rfl ?_ | apply zx | (apply zm; apply zn; simp only [go_sem, simprocAttr, e1, c1])
  exact ⟨⟨_, rfl⟩, l, hd.leaf hend, hp, hgn, hS, hF⟩
theorem ze8 {o : Nat → O} {gb : Nat} {rest : List A} {r : List Int} (h : HpS o gb rest r) (hr : r.length ≤ 900000) (hh : zaC r r.length) (x : Int) : Cm Tryz.prog Hy 106 [hpI gb, .t (.ifc 3 (.i .i64 x))] o fun rs o' => rs = [] ∧ ∃ r', zaC r' r'.length ∧ r'.Perm (x :: r) ∧ HpS o' gb rest r' ∧ FrH o o' := by
 have hg : ∃ gh, o 900 = ⟨gb, .cells 120 (.row 901 gh :: rest)⟩ := by obtain ⟨gh, h1, _⟩ := h.ex; exact ⟨gh, h1⟩
 obtain ⟨gh, h1⟩ := hg
 have e1 : (((r ++ [x]).length : Int) - 1) = (r.length : Int) := by rw [List.length_append]; simp
 refine zax (cls := fun d => 6800 + d) zB zD Tryz.func106 rfl (by decide) (Nat.le_of_ble_eq_true rfl) ?_
 rw [show Tryz.f106.ntmps = 12 from rfl, zC]
 simp only [List.zipIdx_cons, List.zipIdx_nil, List.map_cons, List.map_nil, Nat.reduceAdd]
 repeat' first | apply zg | refine zf rfl fun K E hK hE => ?_ | (refine za fun κ η => ?_; simp only [go_sem, simprocAttr]; refine η _ ?_; clear η κ)
 refine zaj fun κ η => ?_; simp only [go_sem, simprocAttr]; refine ⟨_, _, _, zjE Hy (by rw [h1]), zjH Hy h (by omega) x, ?_⟩; rintro _ o1 ⟨rfl, hS, hF⟩; simp only [go_sem, simprocAttr]; refine η _ ?_; clear η κ
 repeat' first | refine zf rfl fun K E hK hE => ?_ | (refine za fun κ η => ?_; simp only [go_sem, simprocAttr]; refine η _ ?_; clear η κ) | (refine zd (hK _ ?_); clear hE hK E K) | apply zb
 obtain ⟨gh2, h2, h3⟩ := hS.ex
 refine zaj fun κ η => ?_; simp only [go_sem, simprocAttr]; refine ⟨_, _, _, zgB Hy h2, ze7 Hy h3, ?_⟩; rintro _ o2 ⟨rfl, rfl⟩; simp only [go_sem, simprocAttr]; refine η _ ?_; clear η κ
 repeat' (refine za fun κ η => ?_; simp only [go_sem, simprocAttr, e1]; (repeat refine ⟨by omega, ?_⟩); refine η _ ?_; clear η κ)
 refine zaj fun κ η => ?_; simp only [go_sem, simprocAttr]; refine ⟨_, zjK Hy hS (by rw [List.length_append]; simp; omega) r.length (by rw [List.length_append]; simp) (UpInv.start hh), ?_⟩; rintro _ o3 ⟨rfl, r', k1, k2, k3, k4⟩; simp only [go_sem, simprocAttr]; refine η _ ?_; clear η κ
 repeat' first | (refine zd (hK _ ?_); clear hE hK E K) | (apply zQ; apply zP; simp only [go_sem, simprocAttr])
 exact ⟨r', k1, k2.trans (List.perm_append_comm (l₁ := r) (l₂ := [x])), k3, hF.trans k4⟩
theorem zjM {o : Nat → O} {gb : Nat} {rest : List A} {r : List Int} (h : HpS o gb rest r) (hr : r.length ≤ 900000) (hh : zaC r r.length) (h0 : 0 < r.length) : Cm Tryz.prog Hy 92 [hpI gb] o fun rs o' => rs = [.t (.ifc 3 (.i .i64 (gd r 0)))] ∧ ∃ r', zaC r' r'.length ∧ (gd r 0 :: r').Perm r ∧ HpS o' gb rest r' ∧ FrH o o' := by
 obtain ⟨n, hn⟩ : ∃ n, r.length = n + 1 := ⟨r.length - 1, by omega⟩
 obtain ⟨gh, h1, h2⟩ := h.ex
 have e1 : ((r.length : Int) - 1) = n := by omega
 refine zax (cls := fun d => 6800 + d) zB zD Tryz.func92 rfl (by decide) (Nat.le_of_ble_eq_true rfl) ?_
 rw [show Tryz.f92.ntmps = 15 from rfl, zC]
 simp only [List.zipIdx_cons, List.zipIdx_nil, List.map_cons, List.map_nil, Nat.reduceAdd]
 repeat' first | apply zg | refine zf rfl fun K E hK hE => ?_ | (refine za fun κ η => ?_; simp only [go_sem, simprocAttr]; refine η _ ?_; clear η κ) | (refine zd (hK _ ?_); clear hE hK E K) | apply zb
 refine zaj fun κ η => ?_; simp only [go_sem, simprocAttr]; refine ⟨_, _, _, zgB Hy h1, ze7 Hy h2, ?_⟩; rintro _ o2 ⟨rfl, rfl⟩; simp only [go_sem, simprocAttr]; refine η _ ?_; clear η κ
 repeat' first | apply zg | refine zf rfl fun K E hK hE => ?_ | (refine za fun κ η => ?_; simp only [go_sem, simprocAttr, e1]; (repeat refine ⟨by omega, ?_⟩); refine η _ ?_; clear η κ) | (refine zd (hK _ ?_); clear hE hK E K) | apply zb
 refine zaj fun κ η => ?_; simp only [go_sem, simprocAttr]; refine ⟨_, _, _, zdB Hy h1, zdD Hy h2 0 n (by omega) (by omega), ?_⟩; rintro _ o2 ⟨rfl, ho⟩; simp only [go_sem, simprocAttr]; refine η _ ?_; clear η κ
 have hs := HpS.swap h1 (zaz r 0 n)
 rw [← ho] at hs
 clear ho
 obtain ⟨s1, s2⟩ := hs
 have hd := DnInv.start hh h0
 rw [hn, show n + 1 - 1 = n by omega] at hd
 repeat' first | apply zg | refine zf rfl fun K E hK hE => ?_ | (refine za fun κ η => ?_; simp only [go_sem, simprocAttr]; refine η _ ?_; clear η κ) | (refine zd (hK _ ?_); clear hE hK E K) | apply zb
 refine zaj fun κ η => ?_; simp only [go_sem, simprocAttr]; refine ⟨_, zjL Hy s1 (by rw [zbw]; omega) n (by rw [zbw]; omega) hd, ?_⟩; rintro _ o3 ⟨⟨b, rfl⟩, l, k1, k2, k3, k4, k5⟩; simp only [go_sem, simprocAttr]; refine η _ ?_; clear η κ
 repeat' first | apply zg | refine zf rfl fun K E hK hE => ?_ | (refine za fun κ η => ?_; simp only [go_sem, simprocAttr]; refine η _ ?_; clear η κ) | (refine zd (hK _ ?_); clear hE hK E K) | apply zb
 obtain ⟨gh3, h3, _⟩ := k4.ex
 have hl := k2.length_eq
 rw [zbw] at hl
 refine zaj fun κ η => ?_; simp only [go_sem, simprocAttr]; refine ⟨_, _, _, zjF Hy (by rw [h3]), zjI Hy k4 (by omega) (show l.length = n + 1 by omega), ?_⟩; rintro _ o4 ⟨rfl, j1, j2⟩; simp only [go_sem, simprocAttr]; refine η _ ?_; clear η κ
 have hg0 : gd l n = gd r 0 := by
  rw [k3, zbx r 0 n n (by omega) (by omega), if_pos rfl]
 rw [hg0]
 repeat' first | (refine za fun κ η => ?_; simp only [go_sem, simprocAttr]; refine η _ ?_; clear η κ) | (refine zd (hK _ ?_); clear hE hK E K) | apply zb | apply zk | (apply zm; apply zn; simp only [go_sem, simprocAttr])
 exact ⟨l.take n, zjx k1 (by omega), zjz hn k2 k3, j1, s2.trans (k5.trans j2)⟩
end Go.Proofs.YtbhoeanfnbkenaaGreatDoor
