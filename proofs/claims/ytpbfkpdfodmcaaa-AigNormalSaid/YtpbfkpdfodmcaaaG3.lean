import Derived.Test.YtpbfkpdfodmcaaaG2
namespace Go.Proofs.Ytpbfkpdfodmcaaa
open Go.RowKit
set_option maxRecDepth 100000
set_option linter.unusedSimpArgs false
variable (Hy : World → Prop)
attribute [local irreducible] runM runD cwp seqQ blkQ lpQ retQ
/-- a number, its last bit turned where b is 1 -/
def xr (v b : Int) : Int := if b = 0 then v else if v % 2 = 0 then v + 1 else v - 1
theorem xor_nat (n : Nat) : n ^^^ 1 = if n % 2 = 0 then n + 1 else n - 1 := by
  have h1 : (n ^^^ 1) / 2 = n / 2 := by rw [Nat.xor_div_two]; simp
  have h2 : (n ^^^ 1) % 2 = n % 2 ^^^ 1 := Nat.xor_mod_two_pow (n := 1)
  rcases Nat.mod_two_eq_zero_or_one n with h | h
  · rw [h] at h2
    rw [if_pos h]
    have : (n ^^^ 1) % 2 = 1 := h2
    omega
  · rw [h] at h2
    rw [if_neg (by omega)]
    have : (n ^^^ 1) % 2 = 0 := h2
    omega
theorem bit_xor {v b : Int} (hv : 0 ≤ v ∧ v ≤ 1000000) (hb : b = 0 ∨ b = 1) : bitI .xor .i64 v b = xr v b := by
  obtain ⟨n, rfl⟩ : ∃ n : Nat, v = n := ⟨v.toNat, by omega⟩
  have hw : ∀ m : Nat, m ≤ 1000001 → IntKind.i64.wrap (m : Int) = m := fun m hm => inR_wrap (by simp only [inR]; omega)
  have hn : (BitVec.ofInt IntKind.i64.bits (n : Int)).toNat = n := by
    rw [BitVec.toNat_ofInt]
    simp only [IntKind.bits]
    omega
  unfold bitI xr
  rcases hb with rfl | rfl
  · simp only [BitVec.toNat_xor, hn]
    rw [show (BitVec.ofInt IntKind.i64.bits 0).toNat = 0 from rfl, Nat.xor_zero]
    exact hw n (by omega)
  · simp only [BitVec.toNat_xor, hn]
    rw [show (BitVec.ofInt IntKind.i64.bits 1).toNat = 1 from rfl, xor_nat, if_neg (show ¬ (1 : Int) = 0 by decide)]
    by_cases h : n % 2 = 0
    · rw [if_pos h, if_pos (by omega), hw _ (by omega)]; rfl
    · rw [if_neg h, if_neg (by omega), hw _ (by omega)]; omega
/-- what a literal has come to -/
def litB (to : List Int) (l : Int) : Int := xr (to.getD (l / 2).toNat 0) (l % 2)
theorem lookO_dropL {l : List (Nat × O)} {id g : Nat} {x : O} {o : Nat → O} : obx (fun j => lookO (l ++ [(id, x)]) j (o j)) id ⟨g, .none⟩ = fun j => lookO ((id, ⟨g, .none⟩) :: l) j (o j) := funext fun j => by
  show (if j = id then _ else _) = if j = id then _ else _
  split
  · rfl
  · rename_i hj
    induction l with
    | nil => exact if_neg hj
    | cons p l ih => exact congrArg (fun z => if j = p.1 then p.2 else z) ih
theorem lit_cd (l : Int) {o : Nat → O} {R : List Nat} {nb k : Nat} {a b c d e m : A} {to : List Int} (h9 : o 900 = ⟨nb, .cells 86 [a, b, c, d, e, m, .row 903 k]⟩) (h3 : o 903 = ⟨k, .row 3 1 (to.map fun x => [.i .i64 x])⟩)
    (hl : 0 ≤ l ∧ l / 2 < to.length) (hz : l ≤ 1000000) (ht : ∀ x ∈ to, 0 ≤ x ∧ x ≤ 1000000) (hR : 900 ∈ R ∧ 903 ∈ R) : Cd Try.prog Hy 56 [.ptr 900 nb 0, .t (.i .i64 l)] o R [] (.t (.i .i64 (litB to l))) := by
  intro o2 ho
  rw [← ho 900 hR.1] at h9
  rw [← ho 903 hR.2] at h3
  clear ho
  obtain ⟨l1, l2⟩ := hl
  have q1 := Int.tdiv_eq_ediv_of_nonneg l1 (b := 2)
  have q2 := Int.tmod_eq_emod_of_nonneg l1 (b := 2)
  obtain ⟨x, hx⟩ : ∃ x, to[(l / 2).toNat]? = some x := ⟨_, List.getElem?_eq_getElem (by omega)⟩
  have hxx := ht x (List.mem_of_getElem? hx)
  have hb := bit_xor hxx (b := l % 2) (by omega)
  have hr : litB to l = xr x (l % 2) := by unfold litB; rw [List.getD_eq_getElem?_getD, hx]; rfl
  rw [hr]
  refine cm_of (cls := fun d => 1000 + d) tt_ok follows_ Try.func56 rfl (by decide) (Nat.le_of_ble_eq_true rfl) ?_
  rw [show Try.f56.ntmps = 16 from rfl, s0_nf]
  simp only [List.zipIdx_cons, List.zipIdx_nil, List.map_cons, List.map_nil, Nat.reduceAdd]
  repeat' first | refine c_seq ?_ | refine c_reg' rfl fun K hK => ?_ | (refine r_opN fun κ η => ?_; simp only [go_sem, Nat.reduceLT, Nat.reduceEqDiff, Nat.reduceAdd, Nat.reduceMul, Nat.reduceLeDiff, Nat.le_refl, reduceIte, reduceCtorEq, h9, h3, q1, q2, hx, hb]; (repeat refine ⟨by omega, ?_⟩); refine η _ ?_; clear η κ) | (refine r_nil (hK _ ?_); clear hK K) | refine q_seq ?_ | refine c_ret ?_ | (refine q_ret ?_; refine q_r1 ?_; simp only [go_sem, Nat.reduceLT, Nat.reduceEqDiff, Nat.reduceAdd, Nat.reduceMul, Nat.reduceLeDiff, Nat.le_refl, reduceIte, reduceCtorEq, h9, h3, q1, q2, hx, hb])
theorem come_cd (x : Int) {o : Nat → O} {R : List Nat} {nb k : Nat} {a b c d e m : A} {to : List Int} (h9 : o 900 = ⟨nb, .cells 86 [a, b, c, d, e, m, .row 903 k]⟩) (h3 : o 903 = ⟨k, .row 3 1 (to.map fun x => [.i .i64 x])⟩)
    (hl : to.length ≤ 1000000) (hR : 900 ∈ R ∧ 903 ∈ R ∧ 2010 ∈ R) : Cd Try.prog Hy 54 [.ptr 900 nb 0, .t (.i .i64 x)] o R [(2010, ⟨(o 2010).gen + 1, .none⟩), (900, ⟨nb, .cells 86 [a, b, c, d, e, m, .row 903 (k + 1)]⟩), (903, ⟨k + 1, .row 3 1 ((to ++ [x]).map fun x => [.i .i64 x])⟩)] (.tup []) := by
  intro o2 ho
  rw [← ho 900 hR.1] at h9
  rw [← ho 903 hR.2.1] at h3
  rw [← ho 2010 hR.2.2]
  clear ho
  refine Cm.settle (R := fun rs o' => rs = [] ∧ o' = fun j => lookO ([(900, ⟨nb, .cells 86 [a, b, c, d, e, m, .row 903 (k + 1)]⟩), (903, ⟨k + 1, .row 3 1 ((to ++ [x]).map fun x => [.i .i64 x])⟩)] ++ [(2010, ⟨(o2 2010).gen + 1, .row 3 1 [[.i .i64 x]]⟩)]) j (o2 j)) ?_ (fun rs o' hr => ?_)
  · refine cm_of (cls := fun d => 2000 + d) tt_ok follows_ Try.func54 rfl (by decide) (Nat.le_of_ble_eq_true rfl) ?_
    rw [show Try.f54.ntmps = 14 from rfl, s0_nf]
    simp only [List.zipIdx_cons, List.zipIdx_nil, List.map_cons, List.map_nil, Nat.reduceAdd]
    repeat' first | refine c_reg' rfl fun K hK => ?_ | (refine r_opN fun κ η => ?_; simp only [go_sem, Nat.reduceLT, Nat.reduceEqDiff, Nat.reduceAdd, Nat.reduceMul, Nat.reduceLeDiff, Nat.le_refl, reduceIte, reduceCtorEq, h9, h3]; (repeat refine ⟨by omega, ?_⟩); refine η _ ?_; clear η κ) | (refine r_nil (hK _ ?_); clear hK K) | (refine q_end ?_; refine q_r0 ?_; simp only [go_sem, Nat.reduceLT, Nat.reduceEqDiff, Nat.reduceAdd, Nat.reduceMul, Nat.reduceLeDiff, Nat.le_refl, reduceIte, reduceCtorEq, h9, h3])
    rw [List.map_append]
    rfl
  · obtain ⟨rfl, rfl⟩ := hr
    exact ⟨_, Stl.drop (Nat.le_refl _), rfl, lookO_dropL⟩
/-- entries of the map: each and, and its literal -/
def ents (first : Int) (l : List (Int × Int)) : List (Ky × A) := l.zipIdx.map fun p => (.a .i64 [p.1.1, p.1.2], .t (.i .i64 (2 * (first + (p.2 : Int)))))
theorem ents_app (first : Int) (l : List (Int × Int)) (a : Int × Int) : ents first (l ++ [a]) = ents first l ++ [(.a .i64 [a.1, a.2], .t (.i .i64 (2 * (first + (l.length : Int)))))] := by
  simp [ents, List.zipIdx_append]
theorem get_go (first x y : Int) : ∀ (l : List (Int × Int)) (n : Nat), getM ((l.zipIdx n).map fun p => (Ky.a .i64 [p.1.1, p.1.2], A.t (.i .i64 (2 * (first + (p.2 : Int)))))) (.a .i64 [x, y]) = (l.findIdx? fun a => decide (x = a.1 ∧ y = a.2)).map fun i => A.t (.i .i64 (2 * (first + ((i + n : Nat) : Int))))
  | [], _ => rfl
  | a :: l, n => by
    have ih := get_go first x y l (n + 1)
    rw [List.zipIdx_cons, List.map_cons, List.findIdx?_cons]
    unfold getM at ih ⊢
    rw [List.find?_cons]
    by_cases h : x = a.1 ∧ y = a.2
    · rw [decide_eq_true h, decide_eq_true (show Ky.a .i64 [a.1, a.2] = Ky.a .i64 [x, y] by rw [h.1, h.2])]
      simp
    · rw [decide_eq_false h, decide_eq_false (show ¬ Ky.a .i64 [a.1, a.2] = Ky.a .i64 [x, y] from fun e => h (by injection e with _ e; injection e with e1 e2; injection e2 with e2; exact ⟨e1.symm, e2.symm⟩))]
      rw [ih, if_neg (by simp), Option.map_map]
      congr 1
      funext i
      show A.t (.i .i64 (2 * (first + ((i + (n + 1) : Nat) : Int)))) = A.t (.i .i64 (2 * (first + ((i + 1 + n : Nat) : Int))))
      rw [show i + (n + 1) = i + 1 + n from by omega]
theorem ents_get (first x y : Int) (l : List (Int × Int)) : getM (ents first l) (.a .i64 [x, y]) = if 0 ≤ idxP l (x, y) then some (.t (.i .i64 (2 * (first + idxP l (x, y))))) else none := by
  refine (get_go first x y l 0).trans ?_
  unfold idxP ixI
  cases l.findIdx? fun a => decide (x = a.1 ∧ y = a.2) with
  | none => rfl
  | some k =>
    show some _ = if 0 ≤ (k : Int) then some _ else none
    rw [if_pos (by omega)]
    rfl
theorem ents_new {first x y : Int} {l : List (Int × Int)} {v : A} (h : getM (ents first l) (.a .i64 [x, y]) = none) : putM (ents first l) (.a .i64 [x, y]) v = ents first l ++ [(.a .i64 [x, y], v)] := by
  unfold putM
  rw [if_neg]
  intro hm
  obtain ⟨p, hp, he⟩ := List.mem_map.1 hm
  unfold getM at h
  rw [Option.map_eq_none_iff, List.find?_eq_none] at h
  exact h p hp (by rw [he]; simp)
theorem getM_put {l : List (Ky × A)} {ky : Ky} (v : A) : getM (putM l ky v) ky = some v := by
  unfold putM getM
  split
  · rename_i h
    induction l with
    | nil => simp at h
    | cons p l ih =>
      rw [List.map_cons, List.find?_cons]
      by_cases hp : p.1 = ky
      · rw [if_pos hp]
        simp
      · rw [if_neg hp, decide_eq_false hp]
        refine ih ?_
        rw [List.map_cons] at h
        exact (List.mem_cons.1 h).resolve_left fun e => hp e.symm
  · rename_i h
    rw [List.find?_append]
    have : l.find? (fun p => p.1 = ky) = none := List.find?_eq_none.2 fun p hp e => h (List.mem_map.2 ⟨p, hp, of_decide_eq_true e⟩)
    rw [this]
    simp
theorem ents_len {first : Int} {l : List (Int × Int)} : (ents first l).length = l.length := by simp [ents]
/-- the builder -/
structure Bld (o : Nat → O) (nb k1 km k : Nat) (ins first : Int) (next init : List Int) (ands : List (Int × Int)) (to : List Int) : Prop where
  b : o 900 = ⟨nb, .cells 86 [.t (.i .i64 ins), .t (iL next), .t (iL init), .row 901 k1, .nilS, .row 902 km, .row 903 k]⟩
  an : o 901 = ⟨k1, .row 77 2 (ands.map fun x => [.i .i64 x.1, .i .i64 x.2])⟩
  mp : o 902 = ⟨km, .map (.arr .i64 2) (ents first ands)⟩
  tl : o 903 = ⟨k, .row 3 1 (to.map fun x => [.i .i64 x])⟩
  fi : first = 1 + ins + next.length
structure Bnd (ins : Int) (next init : List Int) (ands : List (Int × Int)) : Prop where
  i : 0 ≤ ins ∧ ins ≤ 4000
  n : next.length ≤ 4000
  t : init.length ≤ 4000
  a : ands.length ≤ 4000
def upAnd (nb k1 km k : Nat) (ins first : Int) (next init : List Int) (ands ands' : List (Int × Int)) : List (Nat × O) :=
  [(900, ⟨nb, .cells 86 [.t (.i .i64 ins), .t (iL next), .t (iL init), .row 901 (k1 + (ands'.length - ands.length)), .nilS, .row 902 km, .row 903 k]⟩), (901, ⟨k1 + (ands'.length - ands.length), .row 77 2 (ands'.map fun x => [.i .i64 x.1, .i .i64 x.2])⟩), (902, ⟨km, .map (.arr .i64 2) (ents first ands')⟩)]
theorem upAnd_same {o2 : Nat → O} {nb k1 km k : Nat} {ins first : Int} {next init : List Int} {ands : List (Int × Int)} {to : List Int} (hB : Bld o2 nb k1 km k ins first next init ands to) (j : Nat) : lookO (upAnd nb k1 km k ins first next init ands ands) j (o2 j) = o2 j := by
  unfold upAnd
  rw [Nat.sub_self]
  show (if j = 900 then _ else if j = 901 then _ else if j = 902 then _ else o2 j) = o2 j
  split
  · rename_i h; subst h; exact hB.b.symm
  split
  · rename_i h; subst h; exact hB.an.symm
  split
  · rename_i h; subst h; exact hB.mp.symm
  · rfl
theorem own_gen {o2 : Nat → O} {o' : Nat → O} {a b c : Nat} (h1 : (o' a).gen ≤ (o2 a).gen + c) (h2 : (o' b).gen ≤ (o2 b).gen + c) : ∀ j ∈ [a, b], (o' j).gen ≤ (o2 j).gen + c := fun j hj => by
  simp only [List.mem_cons, List.not_mem_nil, or_false] at hj
  rcases hj with rfl | rfl
  · exact h1
  · exact h2
set_option maxHeartbeats 2000000 in
theorem band_cm (x y : Int) {o2 : Nat → O} {nb k1 km k : Nat} {ins first : Int} {next init : List Int} {ands : List (Int × Int)} {to : List Int} (hB : Bld o2 nb k1 km k ins first next init ands to) (hbd : Bnd ins next init ands) (hM : MLaw Try.prog tt 84 77 3)
    (hx : 0 ≤ x ∧ x ≤ 100000) (hy : 0 ≤ y ∧ y ≤ 100000) :
    Cm Try.prog Hy 55 [.ptr 900 nb 0, .t (.i .i64 x), .t (.i .i64 y)] o2 fun rs o' => resM rs = .t (.i .i64 (andG first ands x y).2) ∧ Nearly o2 [1009, 1047] 1 (upAnd nb k1 km k ins first next init ands (andG first ands x y).1) o' := by
  have hsame := upAnd_same hB
  obtain ⟨h9, h1, h2, h3, hf⟩ := hB
  obtain ⟨⟨l1, l2⟩, l3, l4, l5⟩ := hbd
  obtain ⟨x1, x2⟩ := hx
  obtain ⟨y1, y2⟩ := hy
  have m1 : (if x < y then y else x) = max x y := by omega
  have m2 : (if y < x then y else x) = min x y := by omega
  have hpl := plain_ct Hy (max x y) (min x y) (by omega)
  obtain ⟨R, hR⟩ : ∃ R, R = andG first ands x y := ⟨_, rfl⟩
  rw [← hR]
  unfold andG at hR
  refine cm_of (cls := fun d => 1000 + d) tt_ok follows_ Try.func55 rfl (by decide) (Nat.le_of_ble_eq_true rfl) ?_
  rw [show Try.f55.ntmps = 69 from rfl, s0_nf]
  simp only [List.zipIdx_cons, List.zipIdx_nil, List.map_cons, List.map_nil, Nat.reduceAdd]
  repeat' first | refine c_seq ?_ | refine c_reg' rfl fun K hK => ?_ | (refine r_opN fun κ η => ?_; simp only [go_sem, Nat.reduceLT, Nat.reduceEqDiff, Nat.reduceAdd, Nat.reduceMul, Nat.reduceLeDiff, Nat.le_refl, reduceIte, reduceCtorEq, m1, m2]; refine η _ ?_; clear η κ) | (refine r_nil (hK _ ?_); clear hK K) | refine q_seq ?_
  have gA : (o2 901).gen = k1 := by rw [h1]
  cases hp : plainP (max x y) (min x y) with
  | some r =>
    rw [hp] at hpl hR
    simp only [Option.getD_some, Option.isSome_some] at hpl hR
    subst hR
    refine r_opN fun κ η => ?_; simp only [go_sem, Nat.reduceLT, Nat.reduceEqDiff, Nat.reduceAdd, Nat.reduceMul, Nat.reduceLeDiff, Nat.le_refl, reduceIte, reduceCtorEq]; refine ⟨_, hpl, ?_⟩; simp only [go_sem, Nat.reduceLT, Nat.reduceEqDiff, Nat.reduceAdd, Nat.reduceMul, Nat.reduceLeDiff, Nat.le_refl, reduceIte, reduceCtorEq]; refine η _ ?_; clear η κ
    repeat' first | refine c_seq ?_ | refine c_reg' rfl fun K hK => ?_ | (refine r_opN fun κ η => ?_; simp only [go_sem, Nat.reduceLT, Nat.reduceEqDiff, Nat.reduceAdd, Nat.reduceMul, Nat.reduceLeDiff, Nat.le_refl, reduceIte, reduceCtorEq]; refine η _ ?_; clear η κ) | (refine r_nil (hK _ ?_); clear hK K) | refine q_seq ?_
    refine c_cond _ rfl (fun hq => ?_) (fun hq => (by cases hq))
    repeat' first | refine c_seq ?_ | refine c_reg' rfl fun K hK => ?_ | (refine r_opN fun κ η => ?_; simp only [go_sem, Nat.reduceLT, Nat.reduceEqDiff, Nat.reduceAdd, Nat.reduceMul, Nat.reduceLeDiff, Nat.le_refl, reduceIte, reduceCtorEq]; refine η _ ?_; clear η κ) | (refine r_nil (hK _ ?_); clear hK K) | refine q_seq ?_ | refine c_ret ?_ | refine q_seqR ?_ | (refine q_ret ?_; refine q_r1 ?_; simp only [go_sem, Nat.reduceLT, Nat.reduceEqDiff, Nat.reduceAdd, Nat.reduceMul, Nat.reduceLeDiff, Nat.le_refl, reduceIte, reduceCtorEq])
    exact ⟨fun j _ => (hsame j).symm, own_gen (Nat.le_add_right _ _) (Nat.le_add_right _ _)⟩
  | none =>
  rw [hp] at hpl hR
  simp only [Option.getD_none, Option.isSome_none] at hpl hR
  have hok : Ky.ok (KS.arr IntKind.i64 2) (Ky.a IntKind.i64 [max x y, min x y]) := ⟨rfl, rfl, fun z hz => by
    simp only [List.mem_cons, List.not_mem_nil, or_false] at hz
    simp only [inR]
    omega⟩
  have hg := ents_get first (max x y) (min x y) ands
  have hil := idxP_lt (l := ands) (a := (max x y, min x y))
  refine r_opN fun κ η => ?_; simp only [go_sem, Nat.reduceLT, Nat.reduceEqDiff, Nat.reduceAdd, Nat.reduceMul, Nat.reduceLeDiff, Nat.le_refl, reduceIte, reduceCtorEq]; refine ⟨_, hpl, ?_⟩; simp only [go_sem, Nat.reduceLT, Nat.reduceEqDiff, Nat.reduceAdd, Nat.reduceMul, Nat.reduceLeDiff, Nat.le_refl, reduceIte, reduceCtorEq]; refine η _ ?_; clear η κ
  repeat' first | refine c_seq ?_ | refine c_reg' rfl fun K hK => ?_ | (refine r_opN fun κ η => ?_; simp only [go_sem, Nat.reduceLT, Nat.reduceEqDiff, Nat.reduceAdd, Nat.reduceMul, Nat.reduceLeDiff, Nat.le_refl, reduceIte, reduceCtorEq]; refine η _ ?_; clear η κ) | (refine r_nil (hK _ ?_); clear hK K) | refine q_seq ?_
  refine c_cond _ rfl (fun hq => (by cases hq)) (fun hq => ?_)
  by_cases hi : 0 ≤ idxP ands (max x y, min x y)
  · rw [if_pos hi] at hg hR
    generalize idxP ands (max x y, min x y) = ix at *
    subst hR
    repeat' first | refine c_seq ?_ | refine c_reg' rfl fun K hK => ?_ | refine c_draw' rfl (by kernel_rfl) fun K hK => ?_ | ((first | refine r_opN fun κ η => ?_ | refine d_opN (by kernel_rfl) fun κ η => ?_); simp only [go_sem, Nat.reduceLT, Nat.reduceEqDiff, Nat.reduceAdd, Nat.reduceMul, Nat.reduceLeDiff, Nat.le_refl, reduceIte, reduceCtorEq, h9, h2, hg]; (repeat refine ⟨by omega, ?_⟩); refine η _ ?_; clear η κ) | (refine r_nil (hK _ ?_); clear hK K) | refine q_seq ?_ | (refine d_nil (hK _ ?_); clear hK K) | refine c_skip ?_
    refine c_cond _ rfl (fun hq => (by cases hq)) (fun hq => ?_)
    repeat' first | refine c_seq ?_ | refine c_draw' rfl (by kernel_rfl) fun K hK => ?_ | (refine d_opN (by kernel_rfl) fun κ η => ?_; simp only [go_sem, Nat.reduceLT, Nat.reduceEqDiff, Nat.reduceAdd, Nat.reduceMul, Nat.reduceLeDiff, Nat.le_refl, reduceIte, reduceCtorEq, h9, h2, hg]; (repeat refine ⟨by omega, ?_⟩); refine η _ ?_; clear η κ) | refine q_seq ?_ | (refine d_nil (hK _ ?_); clear hK K) | refine c_skip ?_ | refine c_ret ?_ | (refine q_ret ?_; refine q_r1 ?_; simp only [go_sem, Nat.reduceLT, Nat.reduceEqDiff, Nat.reduceAdd, Nat.reduceMul, Nat.reduceLeDiff, Nat.le_refl, reduceIte, reduceCtorEq, h9, h2, hg])
    refine ⟨fun j hj => ?_, own_gen (Nat.le_refl _) (Nat.le_add_right _ _)⟩
    simp only [List.mem_cons, List.not_mem_nil, or_false, not_or] at hj
    rw [hsame]
    show (if j = 1009 then _ else if j = 1009 then _ else o2 j) = o2 j
    rw [if_neg hj.1, if_neg hj.1]
  rw [if_neg hi] at hg hR
  have hpu := fun v => ents_new (v := v) hg
  have hgr := greatest_ct Hy ⟨ins, next, init, ands ++ [(max x y, min x y)], []⟩ ⟨by dsimp only; omega, by dsimp only; omega, by dsimp only; omega, by show (ands ++ _).length ≤ _; rw [List.length_append, List.length_singleton]; omega⟩
  simp only [G.t, iL, pL, List.map_append, List.map_cons, List.map_nil, List.length_append, List.length_singleton] at hgr
  subst hR
  repeat' first | refine c_seq ?_ | refine c_reg' rfl fun K hK => ?_ | refine c_draw' rfl (by kernel_rfl) fun K hK => ?_ | ((first | refine r_opN fun κ η => ?_ | refine d_opN (by kernel_rfl) fun κ η => ?_); simp only [go_sem, Nat.reduceLT, Nat.reduceEqDiff, Nat.reduceAdd, Nat.reduceMul, Nat.reduceLeDiff, Nat.le_refl, reduceIte, reduceCtorEq, h9, h2, hg]; (repeat refine ⟨by omega, ?_⟩); refine η _ ?_; clear η κ) | (refine r_nil (hK _ ?_); clear hK K) | refine q_seq ?_ | (refine d_nil (hK _ ?_); clear hK K) | refine c_skip ?_
  refine c_cond _ rfl (fun hq => ?_) (fun hq => (by cases hq))
  repeat' first | refine c_seq ?_ | refine c_draw' rfl (by kernel_rfl) fun K hK => ?_ | (refine d_opN (by kernel_rfl) fun κ η => ?_; simp only [go_sem, Nat.reduceLT, Nat.reduceEqDiff, Nat.reduceAdd, Nat.reduceMul, Nat.reduceLeDiff, Nat.le_refl, reduceIte, reduceCtorEq, h9, h1, iL]; (repeat refine ⟨by omega, ?_⟩); refine η _ ?_; clear η κ) | refine q_seq ?_ | (refine d_nil (hK _ ?_); clear hK K)
  refine d_opN (by kernel_rfl) fun κ η => ?_; simp only [go_sem, Nat.reduceLT, Nat.reduceEqDiff, Nat.reduceAdd, Nat.reduceMul, Nat.reduceLeDiff, Nat.le_refl, reduceIte, reduceCtorEq, iL]; refine ⟨_, hgr, ?_⟩; simp only [go_sem, Nat.reduceLT, Nat.reduceEqDiff, Nat.reduceAdd, Nat.reduceMul, Nat.reduceLeDiff, Nat.le_refl, reduceIte, reduceCtorEq, iL]; refine η _ ?_; clear η κ
  have hlast : ∀ v : A, getM (ents first ands ++ [(Ky.a .i64 [max x y, min x y], v)]) (.a .i64 [max x y, min x y]) = some v := fun v => by
    rw [← hpu v]
    exact getM_put v
  repeat' first | refine c_seq ?_ | refine c_draw' rfl (by kernel_rfl) fun K hK => ?_ | (refine d_opN (by kernel_rfl) fun κ η => ?_; simp only [go_sem, Nat.reduceLT, Nat.reduceEqDiff, Nat.reduceAdd, Nat.reduceMul, Nat.reduceLeDiff, Nat.le_refl, reduceIte, reduceCtorEq, h9, h2, hpu, hlast]; (repeat refine ⟨by omega, ?_⟩); refine η _ ?_; clear η κ) | refine q_seq ?_ | (refine d_nil (hK _ ?_); clear hK K) | refine c_ret ?_ | (refine q_ret ?_; refine q_r1 ?_; simp only [go_sem, Nat.reduceLT, Nat.reduceEqDiff, Nat.reduceAdd, Nat.reduceMul, Nat.reduceLeDiff, Nat.le_refl, reduceIte, reduceCtorEq, h9, h2, hpu, hlast])
  rw [show (2 * (ins + next.length + ((ands.length + 1 : Nat) : Int)) : Int) = 2 * (first + ands.length) from by omega]
  have el : (ands ++ [(max x y, min x y)]).length - ands.length = 1 := by simp
  unfold upAnd
  rw [el, ents_app, List.map_append]
  refine ⟨rfl, fun j hj => ?_, own_gen (Nat.le_refl _) (Nat.le_refl _)⟩
  simp only [List.mem_cons, List.not_mem_nil, or_false, not_or] at hj
  show (if j = 902 then _ else if j = 900 then _ else if j = 901 then _ else if j = 1047 then _ else if j = 1009 then _ else if j = 1009 then _ else o2 j) = if j = 900 then _ else if j = 901 then _ else if j = 902 then _ else o2 j
  by_cases e1 : j = 900
  · subst e1; rfl
  by_cases e2 : j = 901
  · subst e2; rfl
  by_cases e3 : j = 902
  · subst e3; rfl
  rw [if_neg e3, if_neg e1, if_neg e2, if_neg hj.2, if_neg hj.1, if_neg hj.1, if_neg e1, if_neg e2, if_neg e3]
theorem band_cd (x y : Int) {o : Nat → O} {R : List Nat} {nb k1 km k : Nat} {ins first : Int} {next init : List Int} {ands : List (Int × Int)} {to : List Int} (hB : Bld o nb k1 km k ins first next init ands to) (hbd : Bnd ins next init ands) (hM : MLaw Try.prog tt 84 77 3)
    (hx : 0 ≤ x ∧ x ≤ 100000) (hy : 0 ≤ y ∧ y ≤ 100000) (hR : 900 ∈ R ∧ 901 ∈ R ∧ 902 ∈ R ∧ 903 ∈ R ∧ 1009 ∈ R ∧ 1047 ∈ R) :
    Cd Try.prog Hy 55 [.ptr 900 nb 0, .t (.i .i64 x), .t (.i .i64 y)] o R ((1009, ⟨(o 1009).gen + 1, .none⟩) :: (1047, ⟨(o 1047).gen + 1, .none⟩) :: upAnd nb k1 km k ins first next init ands (andG first ands x y).1) (.t (.i .i64 (andG first ands x y).2)) := by
  intro o2 ho
  rw [← ho 1009 hR.2.2.2.2.1, ← ho 1047 hR.2.2.2.2.2]
  have hB2 : Bld o2 nb k1 km k ins first next init ands to := ⟨by rw [ho 900 hR.1]; exact hB.b, by rw [ho 901 hR.2.1]; exact hB.an, by rw [ho 902 hR.2.2.1]; exact hB.mp, by rw [ho 903 hR.2.2.2.1]; exact hB.tl, hB.fi⟩
  exact (band_cm Hy x y hB2 hbd hM hx hy).near
end Go.Proofs.Ytpbfkpdfodmcaaa
