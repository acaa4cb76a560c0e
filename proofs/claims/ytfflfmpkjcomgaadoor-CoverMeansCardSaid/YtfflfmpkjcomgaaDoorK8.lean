import Derived.Test.YtfflfmpkjcomgaaDoorK7
namespace Go.Proofs.YtfflfmpkjcomgaaDoor
open Go.RowKit
set_option maxRecDepth 100000
set_option linter.unusedSimpArgs false
variable (Hy : World → Prop)
attribute [local irreducible] runM runD cwp seqQ blkQ lpQ retQ asQ bdQ bdY retP endR preD retD
/-- a row -/
abbrev Row := List UInt8
def mk (l : Row) : ByteArray := ⟨l.toArray⟩
def rL (l : List Row) : T := .sl (l.map fun r => [.s (mk r)])
theorem mk_size (l : Row) : (mk l).size = l.length := by simp [mk, ByteArray.size]
theorem mk_get (l : Row) : (mk l).data.toList = l := by simp [mk]
theorem mk_inj {a b : Row} (h : mk a = mk b) : a = b := by rw [← mk_get a, h, mk_get]
theorem of_toList (s : ByteArray) : mk s.data.toList = s := by
  cases s
  simp [mk]
theorem mk_add (a b : Row) : mk a ++ mk b = mk (a ++ b) := by
  rw [← of_toList (mk a ++ mk b)]
  congr 1
theorem mk_ext (l : Row) (i j : Nat) : (mk l).extract i j = mk ((l.drop i).take (j - i)) := by
  rw [← of_toList ((mk l).extract i j)]
  congr 1
  simp [mk, ByteArray.data_extract, List.extract_eq_take_drop]
/-- a place, and the sign that stands there -/
structure Li where
  p : Nat
  c : UInt8
  deriving DecidableEq
def lE (x : Li) : List T := [.i .i64 x.p, .i .i64 x.c.toNat]
def lL (l : List Li) : T := .sl (l.map fun x => [.i .i64 x.p, .i .i64 x.c.toNat])
theorem li2 (l : List Li) : ∀ e ∈ l.map (fun x => [T.i .i64 x.p, T.i .i64 x.c.toNat]), e.length = 2 := fun e he => by
  obtain ⟨x, _, rfl⟩ := List.mem_map.1 he
  rfl
theorem u8_lt (c : UInt8) : c.toNat < 256 := c.toNat_lt
theorem at_ct (r : Row) (i : Nat) (c : UInt8) (hc : r[i]? = some c) : Ct Tryd.prog Hy 90 [.s (mk r), .i .i64 i] [.ag [.i .i64 i, .i .i64 c.toNat]] := by
  have hl := (List.getElem?_eq_some_iff.1 hc).1
  have h8 := u8_lt c
  have hin : inR .i64 (c.toNat : Int) := by simp only [inR]; omega
  refine ct_of (cls := _root_.id) tt_ok follows_ Tryd.func90 rfl (by decide) (Nat.le_of_ble_eq_true rfl) ?_
  rw [show Tryd.f90.ntmps = 11 from rfl, s0_nf]
  simp only [List.zipIdx_cons, List.zipIdx_nil, List.map_cons, List.map_nil, Nat.reduceAdd]
  repeat' first | refine c_seq ?_ | refine c_reg' rfl fun K E hK hE => ?_ | (refine r_opN fun κ η => ?_; simp only [go_sem, Nat.reduceLT, Nat.reduceEqDiff, Nat.reduceAdd, Nat.reduceMul, Nat.reduceLeDiff, Nat.le_refl, reduceIte, reduceCtorEq, mk_get, hc, Int.toNat_natCast, hin]; (repeat refine ⟨by omega, ?_⟩); refine η _ ?_; clear η κ) | (refine r_nil (hK _ ?_); clear hE hK E K) | refine q_seq ?_ | refine c_ret ?_ | (refine q_ret ?_; refine q_rc ?_; simp only [go_sem, Nat.reduceLT, Nat.reduceEqDiff, Nat.reduceAdd, Nat.reduceMul, Nat.reduceLeDiff, Nat.le_refl, reduceIte, reduceCtorEq, mk_get, hc, Int.toNat_natCast, hin])
/-- a row's literals, by places -/
def litsAt : Nat → Row → List Li
  | _, [] => []
  | i, c :: r => if c = 45 then litsAt (i + 1) r else ⟨i, c⟩ :: litsAt (i + 1) r
theorem litsAt_add : ∀ (r : Row) (i : Nat) (c : UInt8), litsAt i (r ++ [c]) = litsAt i r ++ if c = 45 then [] else [⟨i + r.length, c⟩]
  | [], i, c => by simp [litsAt]
  | d :: r, i, c => by
    have ih := litsAt_add r (i + 1) c
    rw [show i + 1 + r.length = i + (d :: r).length by rw [List.length_cons]; omega] at ih
    rw [List.cons_append]
    simp only [litsAt]
    rw [ih]
    split
    · rfl
    · rfl
theorem litsAt_len : ∀ (r : Row) (i : Nat), (litsAt i r).length ≤ r.length
  | [], _ => Nat.le_refl _
  | d :: r, i => by
    have ih := litsAt_len r (i + 1)
    simp only [litsAt]
    split
    · rw [List.length_cons]; omega
    · rw [List.length_cons, List.length_cons]; omega
theorem litsAt_take {r : Row} {k : Nat} {c : UInt8} (h : r[k]? = some c) : litsAt 0 (r.take (k + 1)) = litsAt 0 (r.take k) ++ if c = 45 then [] else [⟨k, c⟩] := by
  have hl := (List.getElem?_eq_some_iff.1 h).1
  rw [List.take_add_one, h, Option.toList_some, litsAt_add, List.length_take, Nat.zero_add, Nat.min_eq_left (by omega)]
theorem u8_eq (a b : UInt8) : ((a.toNat : Int) = b.toNat) = (a = b) := by
  apply propext
  constructor
  · intro h; exact UInt8.toNat_inj.1 (by omega)
  · intro h; rw [h]
theorem c45 (c : UInt8) : ((c.toNat : Int) = 45) = (c = 45) := u8_eq c 45
theorem c48 (c : UInt8) : ((c.toNat : Int) = 48) = (c = 48) := u8_eq c 48
theorem c49 (c : UInt8) : ((c.toNat : Int) = 49) = (c = 49) := u8_eq c 49
set_option maxHeartbeats 1000000 in
theorem literals2_ct (r : Row) (hr : r.length ≤ 1000000) : Ct Tryd.prog Hy 55 [.s (mk r)] [lL (litsAt 0 r)] := by
  refine ct_of (cls := _root_.id) tt_ok follows_ Tryd.func55 rfl (by decide) (Nat.le_of_ble_eq_true rfl) ?_
  rw [show Tryd.f55.ntmps = 22 from rfl, s0_nf]
  simp only [List.zipIdx_cons, List.zipIdx_nil, List.map_cons, List.map_nil, Nat.reduceAdd]
  repeat' first | refine c_seq ?_ | refine c_block ?_ | refine c_reg' rfl fun K E hK hE => ?_ | (refine r_opN fun κ η => ?_; simp only [go_sem, Nat.reduceLT, Nat.reduceEqDiff, Nat.reduceAdd, Nat.reduceMul, Nat.reduceLeDiff, Nat.le_refl, reduceIte, reduceCtorEq, mk_size]; refine η _ ?_; clear η κ) | (refine r_nil (hK _ ?_); clear hE hK E K) | refine q_seq ?_
  refine c_loop (fun m s' => ∃ k : Nat, m = r.length - k ∧ k ≤ r.length ∧ ∃ F G0 x, s' = nf 22 F G0 [(0, .t (.s (mk r))), (3, x), (6, .t (.i .i64 r.length)), (7, .t (.i .i64 k))] [] ∧ Acc G0 19 86 2 ((litsAt 0 (r.take k)).map lE) x) r.length ?_ ?_
  · exact ⟨0, by omega, by omega, _, _, _, nf_of rfl ⟨rfl, rfl, rfl, rfl, trivial⟩ trivial, .inl ⟨rfl, rfl⟩⟩
  rintro m s' ⟨k, rfl, hk, F, G0, x, rfl, hx⟩
  repeat' first | refine c_seq ?_ | refine c_reg' rfl fun K E hK hE => ?_ | (refine r_opN fun κ η => ?_; simp only [go_sem, Nat.reduceLT, Nat.reduceEqDiff, Nat.reduceAdd, Nat.reduceMul, Nat.reduceLeDiff, Nat.le_refl, reduceIte, reduceCtorEq]; refine η _ ?_; clear η κ) | (refine r_nil (hK _ ?_); clear hE hK E K) | refine q_seq ?_
  refine c_cond _ rfl (fun hq => ?_) (fun hq => ?_)
  · simp only [decide_eq_true_eq] at hq
    obtain ⟨c, hc⟩ : ∃ c, r[k]? = some c := ⟨_, List.getElem?_eq_getElem (by omega)⟩
    have ht := litsAt_take hc
    have hat := at_ct Hy r k c hc
    have hlen := litsAt_len (r.take k) 0
    rw [List.length_take] at hlen
    have hc5 := c45 c
    repeat' first | refine c_seq ?_ | refine c_block ?_ | refine c_reg' rfl fun K E hK hE => ?_ | (refine r_opN fun κ η => ?_; simp only [go_sem, Nat.reduceLT, Nat.reduceEqDiff, Nat.reduceAdd, Nat.reduceMul, Nat.reduceLeDiff, Nat.le_refl, reduceIte, reduceCtorEq, mk_get, hc, Int.toNat_natCast, hc5]; (repeat refine ⟨by omega, ?_⟩); refine η _ ?_; clear η κ) | (refine r_nil (hK _ ?_); clear hE hK E K) | refine q_seq ?_ | refine c_skip ?_
    by_cases c4 : c = 45
    · rw [if_pos c4, List.append_nil] at ht
      rw [← ht] at hx
      refine c_cond _ rfl (fun hq => (by simp [c4] at hq)) (fun hq => ?_)
      repeat' first | refine c_reg' rfl fun K E hK hE => ?_ | (refine r_opN fun κ η => ?_; simp only [go_sem, Nat.reduceLT, Nat.reduceEqDiff, Nat.reduceAdd, Nat.reduceMul, Nat.reduceLeDiff, Nat.le_refl, reduceIte, reduceCtorEq]; (repeat refine ⟨by omega, ?_⟩); refine η _ ?_; clear η κ) | (refine r_nil (hK _ ?_); clear hE hK E K) | refine q_seq ?_ | refine q_blk ?_ | refine c_skip ?_ | refine q_lpN ?_
      exact ⟨r.length - (k + 1), by omega, k + 1, rfl, by omega, _, _, _, nf_of rfl ⟨rfl, rfl, rfl, rfl, trivial⟩ trivial, hx⟩
    · rw [if_neg c4] at ht
      have hs : (litsAt 0 (r.take (k + 1))).map lE = (litsAt 0 (r.take k)).map lE ++ [[.i .i64 k, .i .i64 c.toNat]] := by rw [ht, List.map_append]; rfl
      refine c_cond _ rfl (fun hq => ?_) (fun hq => (by simp [c4] at hq))
      have hlen2 : ((litsAt 0 (r.take k)).map lE).length ≤ 1000000 := by rw [List.length_map]; omega
      rcases hx with ⟨h0, rfl⟩ | ⟨q, rfl, hr⟩
      · rw [h0] at hs
        repeat' first | refine c_reg' rfl fun K E hK hE => ?_ | (refine r_opN fun κ η => ?_; simp only [go_sem, Nat.reduceLT, Nat.reduceEqDiff, Nat.reduceAdd, Nat.reduceMul, Nat.reduceLeDiff, Nat.le_refl, reduceIte, reduceCtorEq]; refine η _ ?_; clear η κ)
        refine r_opN fun κ η => ?_; simp only [go_sem, Nat.reduceLT, Nat.reduceEqDiff, Nat.reduceAdd, Nat.reduceMul, Nat.reduceLeDiff, Nat.le_refl, reduceIte, reduceCtorEq]; refine ⟨_, hat, ?_⟩; simp only [go_sem, Nat.reduceLT, Nat.reduceEqDiff, Nat.reduceAdd, Nat.reduceMul, Nat.reduceLeDiff, Nat.le_refl, reduceIte, reduceCtorEq]; refine η _ ?_; clear η κ
        repeat' first | refine c_reg' rfl fun K E hK hE => ?_ | (refine r_opN fun κ η => ?_; simp only [go_sem, Nat.reduceLT, Nat.reduceEqDiff, Nat.reduceAdd, Nat.reduceMul, Nat.reduceLeDiff, Nat.le_refl, reduceIte, reduceCtorEq]; (repeat refine ⟨by omega, ?_⟩); refine η _ ?_; clear η κ) | (refine r_nil (hK _ ?_); clear hE hK E K) | refine q_seq ?_ | refine q_blk ?_ | refine q_lpN ?_
        exact ⟨r.length - (k + 1), by omega, k + 1, rfl, by omega, _, _, _, nf_of rfl ⟨rfl, rfl, rfl, rfl, trivial⟩ trivial, .inr ⟨_, rfl, by rw [hs]; rfl⟩⟩
      · generalize ((litsAt 0 (r.take k)).map lE) = rw0 at hr hs hlen2
        repeat' first | refine c_reg' rfl fun K E hK hE => ?_ | (refine r_opN fun κ η => ?_; simp only [go_sem, Nat.reduceLT, Nat.reduceEqDiff, Nat.reduceAdd, Nat.reduceMul, Nat.reduceLeDiff, Nat.le_refl, reduceIte, reduceCtorEq]; refine η _ ?_; clear η κ)
        refine r_opN fun κ η => ?_; simp only [go_sem, Nat.reduceLT, Nat.reduceEqDiff, Nat.reduceAdd, Nat.reduceMul, Nat.reduceLeDiff, Nat.le_refl, reduceIte, reduceCtorEq]; refine ⟨_, hat, ?_⟩; simp only [go_sem, Nat.reduceLT, Nat.reduceEqDiff, Nat.reduceAdd, Nat.reduceMul, Nat.reduceLeDiff, Nat.le_refl, reduceIte, reduceCtorEq]; refine η _ ?_; clear η κ
        repeat' first | refine c_reg' rfl fun K E hK hE => ?_ | (refine r_opN fun κ η => ?_; simp only [go_sem, Nat.reduceLT, Nat.reduceEqDiff, Nat.reduceAdd, Nat.reduceMul, Nat.reduceLeDiff, Nat.le_refl, reduceIte, reduceCtorEq, hr]; (repeat refine ⟨by omega, ?_⟩); refine η _ ?_; clear η κ) | (refine r_nil (hK _ ?_); clear hE hK E K) | refine q_seq ?_ | refine q_blk ?_ | refine q_lpN ?_
        exact ⟨r.length - (k + 1), by omega, k + 1, rfl, by omega, _, _, _, nf_of rfl ⟨rfl, rfl, rfl, rfl, trivial⟩ trivial, .inr ⟨_, rfl, by rw [hs]; rfl⟩⟩
  · simp only [decide_eq_false_iff_not] at hq
    rw [List.take_of_length_le (by omega)] at hx
    have hz := li2 (litsAt 0 r)
    rcases hx with ⟨h0, rfl⟩ | ⟨q, rfl, hr⟩
    · have : litsAt 0 r = [] := by simpa using h0
      rw [this]
      repeat' first | refine c_seq ?_ | refine c_reg' rfl fun K E hK hE => ?_ | (refine r_opN fun κ η => ?_; simp only [go_sem, Nat.reduceLT, Nat.reduceEqDiff, Nat.reduceAdd, Nat.reduceMul, Nat.reduceLeDiff, Nat.le_refl, reduceIte, reduceCtorEq]; refine η _ ?_; clear η κ) | (refine r_nil (hK _ ?_); clear hE hK E K) | refine q_seq ?_ | refine c_exit ?_ | refine c_ret ?_ | refine q_seqE ?_ | refine q_blkHit ?_ | refine q_lpE ?_ | (refine q_ret ?_; refine q_r1 ?_; simp only [go_sem, Nat.reduceLT, Nat.reduceEqDiff, Nat.reduceAdd, Nat.reduceMul, Nat.reduceLeDiff, Nat.le_refl, reduceIte, reduceCtorEq])
      rfl
    · have hr : G0 19 = ⟨q, .row 86 2 ((litsAt 0 r).map fun x => [T.i .i64 x.p, T.i .i64 x.c.toNat])⟩ := hr
      repeat' first | refine c_seq ?_ | refine c_reg' rfl fun K E hK hE => ?_ | (refine r_opN fun κ η => ?_; simp only [go_sem, Nat.reduceLT, Nat.reduceEqDiff, Nat.reduceAdd, Nat.reduceMul, Nat.reduceLeDiff, Nat.le_refl, reduceIte, reduceCtorEq, hr]; refine η _ ?_; clear η κ) | (refine r_nil (hK _ ?_); clear hE hK E K) | refine q_seq ?_ | refine c_exit ?_ | refine c_ret ?_ | refine q_seqE ?_ | refine q_blkHit ?_ | refine q_lpE ?_ | (refine q_ret ?_; refine q_r1 ?_; simp only [go_sem, Nat.reduceLT, Nat.reduceEqDiff, Nat.reduceAdd, Nat.reduceMul, Nat.reduceLeDiff, Nat.le_refl, reduceIte, reduceCtorEq, hr])
      rfl
def formL (x : Li) : Fm := ⟨2, 2 * x.p + (if x.c = 48 then 1 else 0), 0⟩
theorem lform_ct (x : Li) (hx : x.p ≤ 1000000) : Ct Tryd.prog Hy 89 [.ag (lE x)] [.ag (fE (formL x))] := by
  have h8 := c48 x.c
  refine ct_of (cls := _root_.id) tt_ok follows_ Tryd.func89 rfl (by decide) (Nat.le_of_ble_eq_true rfl) ?_
  rw [show Tryd.f89.ntmps = 16 from rfl, s0_nf]
  simp only [List.zipIdx_cons, List.zipIdx_nil, List.map_cons, List.map_nil, Nat.reduceAdd, lE]
  repeat' first | refine c_seq ?_ | refine c_reg' rfl fun K E hK hE => ?_ | (refine r_opN fun κ η => ?_; simp only [go_sem, Nat.reduceLT, Nat.reduceEqDiff, Nat.reduceAdd, Nat.reduceMul, Nat.reduceLeDiff, Nat.le_refl, reduceIte, reduceCtorEq, h8]; (repeat refine ⟨by omega, ?_⟩); refine η _ ?_; clear η κ) | (refine r_nil (hK _ ?_); clear hE hK E K) | refine q_seq ?_
  by_cases c : x.c = 48
  · refine c_cond _ rfl (fun hq => ?_) (fun hq => (by simp [c] at hq))
    repeat' first | refine c_seq ?_ | refine c_reg' rfl fun K E hK hE => ?_ | (refine r_opN fun κ η => ?_; simp only [go_sem, Nat.reduceLT, Nat.reduceEqDiff, Nat.reduceAdd, Nat.reduceMul, Nat.reduceLeDiff, Nat.le_refl, reduceIte, reduceCtorEq]; (repeat refine ⟨by omega, ?_⟩); refine η _ ?_; clear η κ) | (refine r_nil (hK _ ?_); clear hE hK E K) | refine q_seq ?_ | refine c_ret ?_ | (refine q_ret ?_; refine q_rc ?_; simp only [go_sem, Nat.reduceLT, Nat.reduceEqDiff, Nat.reduceAdd, Nat.reduceMul, Nat.reduceLeDiff, Nat.le_refl, reduceIte, reduceCtorEq])
    simp [fE, formL, c]
  · refine c_cond _ rfl (fun hq => (by simp [c] at hq)) (fun hq => ?_)
    repeat' first | refine c_seq ?_ | refine c_reg' rfl fun K E hK hE => ?_ | (refine r_opN fun κ η => ?_; simp only [go_sem, Nat.reduceLT, Nat.reduceEqDiff, Nat.reduceAdd, Nat.reduceMul, Nat.reduceLeDiff, Nat.le_refl, reduceIte, reduceCtorEq]; refine η _ ?_; clear η κ) | (refine r_nil (hK _ ?_); clear hE hK E K) | refine q_seq ?_ | refine c_skip ?_ | refine c_ret ?_ | (refine q_ret ?_; refine q_rc ?_; simp only [go_sem, Nat.reduceLT, Nat.reduceEqDiff, Nat.reduceAdd, Nat.reduceMul, Nat.reduceLeDiff, Nat.le_refl, reduceIte, reduceCtorEq])
    simp [fE, formL, c]
theorem without_ct (r : Row) (i : Nat) (hi : i < r.length) (hr : r.length ≤ 1000000) : Ct Tryd.prog Hy 88 [.s (mk r), .i .i64 i] [.s (mk (r.set i 45))] := by
  have hc : (⟨#[45]⟩ : ByteArray) = mk [45] := rfl
  have he : List.take i r ++ [45] ++ List.take (r.length - (i + 1)) (List.drop (i + 1) r) = r.set i 45 := by
    rw [List.take_of_length_le (show (List.drop (i + 1) r).length ≤ r.length - (i + 1) by simp), List.set_eq_take_append_cons_drop, if_pos hi]
    simp
  refine ct_of (cls := _root_.id) tt_ok follows_ Tryd.func88 rfl (by decide) (Nat.le_of_ble_eq_true rfl) ?_
  rw [show Tryd.f88.ntmps = 14 from rfl, s0_nf]
  simp only [List.zipIdx_cons, List.zipIdx_nil, List.map_cons, List.map_nil, Nat.reduceAdd]
  repeat' first | refine c_seq ?_ | refine c_reg' rfl fun K E hK hE => ?_ | refine c_draw' rfl (by kernel_rfl) fun K E hK hE => ?_ | ((first | refine r_opN fun κ η => ?_ | refine d_opN (by kernel_rfl) fun κ η => ?_); simp only [go_sem, Nat.reduceLT, Nat.reduceEqDiff, Nat.reduceAdd, Nat.reduceMul, Nat.reduceLeDiff, Nat.le_refl, reduceIte, reduceCtorEq, mk_size, mk_ext, mk_add, hc, Int.toNat_natCast, Nat.sub_zero, List.drop_zero, List.length_take, List.length_append, List.length_cons, List.length_nil, List.length_drop]; (repeat refine ⟨by omega, ?_⟩); refine η _ ?_; clear η κ) | (refine r_nil (hK _ ?_); clear hE hK E K) | refine q_seq ?_ | (refine d_nil (hK _ ?_); clear hE hK E K) | refine c_ret ?_ | (refine q_ret ?_; refine q_r1 ?_; simp only [go_sem, Nat.reduceLT, Nat.reduceEqDiff, Nat.reduceAdd, Nat.reduceMul, Nat.reduceLeDiff, Nat.le_refl, reduceIte, reduceCtorEq, mk_size, mk_ext, mk_add, hc, Int.toNat_natCast, Nat.sub_zero, List.drop_zero, List.length_take, List.length_append, List.length_cons, List.length_nil, List.length_drop])
  rw [show ((i : Int) + 1).toNat = i + 1 by omega, he]
end Go.Proofs.YtfflfmpkjcomgaaDoor
