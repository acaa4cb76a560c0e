import Derived.Test.YtfflfmpkjcomgaaDoorK14
import Derived.Test.YtfflfmpkjcomgaaDoorShelf
namespace Go.Proofs.YtfflfmpkjcomgaaDoor
open Go.RowKit Go.Shelf Go.Lib
set_option maxRecDepth 100000
set_option linter.unusedSimpArgs false
variable (Hy : World → Prop)
attribute [local irreducible] runM runD cwp seqQ blkQ lpQ retQ asQ bdQ bdY retP endR preD retD
def ixI {α : Type} (p : α → Bool) (l : List α) : Int := match l.findIdx? p with
  | some i => i
  | none => -1
theorem ixI_some {α : Type} {p : α → Bool} {l : List α} {k : Nat} {x : α} (hx : l[k]? = some x) (hp : p x = true) (hno : ∀ (j : Nat) y, j < k → l[j]? = some y → p y = false) : ixI p l = k := by
  have : l.findIdx? p = some k := by
    rw [List.findIdx?_eq_some_iff_getElem]
    obtain ⟨hk, hk2⟩ := List.getElem?_eq_some_iff.1 hx
    refine ⟨hk, by rw [hk2]; exact hp, fun j hj => ?_⟩
    have := hno j _ hj (List.getElem?_eq_getElem (by omega))
    simp [this]
  unfold ixI
  rw [this]
theorem ixI_none {α : Type} {p : α → Bool} {l : List α} (hno : ∀ (j : Nat) y, j < l.length → l[j]? = some y → p y = false) : ixI p l = -1 := by
  have : l.findIdx? p = none := by
    rw [List.findIdx?_eq_none_iff]
    intro x hx
    obtain ⟨j, hj⟩ := List.getElem?_of_mem hx
    exact hno j x (List.getElem?_eq_some_iff.1 hj).1 hj
  unfold ixI
  rw [this]
theorem ixI_ge {α : Type} (p : α → Bool) (l : List α) : decide (0 ≤ ixI p l) = l.any p := by
  unfold ixI
  cases h : l.findIdx? p with
  | none =>
    rw [List.findIdx?_eq_none_iff] at h
    rw [List.any_eq_false.2 (fun x hx => by rw [h x hx]; decide)]
    decide
  | some i =>
    obtain ⟨hi, hp, _⟩ := List.findIdx?_eq_some_iff_getElem.1 h
    rw [List.any_eq_true.2 ⟨_, List.getElem_mem hi, hp⟩]
    simp
def Fn (f : FuncId) (caps : List A) (o : Nat → O) {α : Type} (e : α → List A) (p : α → Bool) (l : List α) : Prop := ∀ x ∈ l, Cm Tryd.prog Hy f (e x ++ caps) o fun rs o' => rs = [.t (.b (p x))] ∧ o = o'
theorem trimS_nil (l cs : List UInt8) : trimS l cs = [] ↔ ∀ c ∈ l, c ∈ cs := by
  have key : ∀ (m : List UInt8), m.dropWhile (cs.contains ·) = [] ↔ ∀ c ∈ m, c ∈ cs := fun m => by
    induction m with
    | nil => simp
    | cons a m ih =>
      rw [List.dropWhile_cons]
      by_cases h : a ∈ cs
      · have hc : cs.contains a = true := by simpa using h
        simp only [hc, if_true, ih, List.mem_cons, forall_eq_or_imp, h, true_and]
      · have hc : cs.contains a = false := by simpa using h
        simp [hc, h]
  unfold trimS trimLeftS trimRightS
  rw [key]
  constructor
  · intro h c hc
    by_cases hn : l.reverse.dropWhile (cs.contains ·) = []
    · exact (key l.reverse).1 hn c (List.mem_reverse.2 hc)
    · exfalso
      have hh := List.head_dropWhile_not (p := (cs.contains ·)) (l := l.reverse) hn
      have hm : (l.reverse.dropWhile (cs.contains ·)).head hn ∈ cs := h _ (List.mem_reverse.2 (List.head_mem hn))
      have : cs.contains ((l.reverse.dropWhile (cs.contains ·)).head hn) = true := by simpa using hm
      rw [this] at hh
      cases hh
  · intro h
    have : l.reverse.dropWhile (cs.contains ·) = [] := (key l.reverse).2 fun c hc => h c (List.mem_reverse.1 hc)
    rw [this]
    simp
/-- a shelf contract with one text as its answer -/
theorem ct_of_calls {f : FuncId} {args : List T} {r : T} {v : Value} {cv : List Value} (hf : ∃ fn, Tryd.prog.funcs[f]? = some fn ∧ fn.name ≠ "runtime.NumGoroutine" ∧ fn.body ≠ none) (ha : ∀ (w : World) (D : Nat → Prop) (cargs : Array Value), cargs.size = args.length → (∀ (j : Nat) v t, cargs[j]? = some v → args[j]? = some t → Rt w D v t) → cargs = cv.toArray)
    (hr : ∀ (w : World) (D : Nat → Prop), Rt w D v r) (h : ∀ w, Calls Tryd.prog f cv.toArray w fun e w' => e = .returned v ∧ Below w.heap.size w w') : Ct Tryd.prog Hy f args [r] := by
  refine ⟨hf, fun w cargs D hD _ hsz harg => ?_⟩
  rw [ha w D cargs hsz harg]
  refine (h w).mono ?_
  rintro e w' ⟨rfl, hb⟩
  exact ⟨v, rfl, hr _ _, hb⟩
theorem two_str {w : World} {D : Nat → Prop} {cargs : Array Value} {a b : ByteArray} (hsz : cargs.size = [T.s a, T.s b].length) (h : ∀ (j : Nat) v t, cargs[j]? = some v → [T.s a, T.s b][j]? = some t → Rt w D v t) : cargs = [Value.string a, Value.string b].toArray := by
  obtain ⟨cl⟩ := cargs
  match cl, hsz with
  | [u1, u2], _ =>
    have h1 := h 0 u1 _ rfl rfl
    have h2 := h 1 u2 _ rfl rfl
    cases h1
    cases h2
    rfl
theorem trim_ct (s cs : Row) (hs : s.length ≤ 1000000) (hcs : cs.length ≤ 1000) (hc : ∀ c ∈ cs, c.toNat < 128) : Ct Tryd.prog Hy 25 [.s (mk s), .s (mk cs)] [.s (mk (trimS s cs))] := by
  refine ct_of_calls Hy (v := .string (mk (trimS s cs))) (cv := [.string (mk s), .string (mk cs)]) ⟨_, Tryd.func25, by decide, fun e => absurd (congrArg Option.isSome e) (by decide)⟩ (fun w D cargs => two_str) (fun w D => .s _) fun w => ?_
  have := Any.strings_Trim_laid Tryd.trimL (by kernel_rfl) (mk s) (mk cs) w (by rw [mk_size]; omega) (by rw [mk_size]; omega) (by rw [mk_get]; exact fun j b hb => hc b (List.mem_of_getElem? hb))
  rw [mk_get, mk_get] at this
  exact this
theorem count_ct (s : Row) (c : UInt8) : Ct Tryd.prog Hy 31 [.s (mk s), .s (mk [c])] [.i .i64 (s.count c)] := by
  refine ct_of_calls Hy (v := .int .i64 (s.count c)) (cv := [.string (mk s), .string (mk [c])]) ⟨_, Tryd.func31, by decide, fun e => absurd (congrArg Option.isSome e) (by decide)⟩ (fun w D cargs => two_str) (fun w D => .i _ _) fun w => ?_
  have := Any.strings_Count_one Tryd.countL (mk s) c w
  rw [mk_get] at this
  refine Calls.mono this ?_
  rintro e w' ⟨rfl, rfl⟩
  exact ⟨rfl, Below.refl _ _⟩
def isAllB (r : Row) : Bool := r.all (· == 45)
theorem mk_nil (l : Row) : (mk l = (⟨#[]⟩ : ByteArray)) = (l = []) := by
  apply propext
  constructor
  · intro h; exact mk_inj (b := []) h
  · intro h; rw [h]; rfl
theorem isAll_ct (r : Row) (hr : r.length ≤ 1000000) : Ct Tryd.prog Hy 49 [.s (mk r)] [.b (isAllB r)] := by
  have ht := trim_ct Hy r [45] hr (by decide) (by decide)
  have hb : decide (trimS r [45] = []) = isAllB r := by
    rw [isAllB, Bool.eq_iff_iff, decide_eq_true_eq, List.all_eq_true, trimS_nil]
    simp
  have hc : (⟨#[45]⟩ : ByteArray) = mk [45] := rfl
  refine ct_of (cls := _root_.id) tt_ok follows_ Tryd.func49 rfl (by decide) (Nat.le_of_ble_eq_true rfl) ?_
  rw [show Tryd.f49.ntmps = 6 from rfl, s0_nf]
  simp only [List.zipIdx_cons, List.zipIdx_nil, List.map_cons, List.map_nil, Nat.reduceAdd]
  repeat' first | refine c_seq ?_ | refine c_reg' rfl fun K E hK hE => ?_ | (refine r_opN fun κ η => ?_; simp only [go_sem, Nat.reduceLT, Nat.reduceEqDiff, Nat.reduceAdd, Nat.reduceMul, Nat.reduceLeDiff, Nat.le_refl, reduceIte, reduceCtorEq, hc]; refine η _ ?_; clear η κ) | (refine r_nil (hK _ ?_); clear hE hK E K) | refine q_seq ?_
  refine r_opN fun κ η => ?_; simp only [go_sem, Nat.reduceLT, Nat.reduceEqDiff, Nat.reduceAdd, Nat.reduceMul, Nat.reduceLeDiff, Nat.le_refl, reduceIte, reduceCtorEq]; refine ⟨_, ht, ?_⟩; simp only [go_sem, Nat.reduceLT, Nat.reduceEqDiff, Nat.reduceAdd, Nat.reduceMul, Nat.reduceLeDiff, Nat.le_refl, reduceIte, reduceCtorEq]; refine η _ ?_; clear η κ
  repeat' first | (refine r_opN fun κ η => ?_; simp only [go_sem, Nat.reduceLT, Nat.reduceEqDiff, Nat.reduceAdd, Nat.reduceMul, Nat.reduceLeDiff, Nat.le_refl, reduceIte, reduceCtorEq, mk_nil, hb]; refine η _ ?_; clear η κ) | (refine r_nil (hK _ ?_); clear hE hK E K) | refine q_seq ?_ | refine c_ret ?_ | (refine q_ret ?_; refine q_r1 ?_; simp only [go_sem, Nat.reduceLT, Nat.reduceEqDiff, Nat.reduceAdd, Nat.reduceMul, Nat.reduceLeDiff, Nat.le_refl, reduceIte, reduceCtorEq, mk_nil, hb])
theorem indexFuncS_cm {f : FuncId} {caps : List A} {o : Nat → O} {p : Row → Bool} {l : List Row} (hl : l.length ≤ 1000000) (h : Fn Hy f caps o (fun x : Row => [.t (.s (mk x))]) p l) :
    Cm Tryd.prog Hy 85 [.t (rL l), .fn f [] caps] o fun rs o' => rs = [.t (.i .i64 (ixI p l))] ∧ o = o' := by
  refine cm_of (cls := _root_.id) tt_ok follows_ Tryd.func85 rfl (by decide) (Nat.le_of_ble_eq_true rfl) ?_
  rw [show Tryd.f85.ntmps = 19 from rfl, s0_nf]
  simp only [List.zipIdx_cons, List.zipIdx_nil, List.map_cons, List.map_nil, Nat.reduceAdd, rL]
  repeat' first | refine c_seq ?_ | refine c_block ?_ | refine c_reg' rfl fun K E hK hE => ?_ | (refine r_opN fun κ η => ?_; simp only [go_sem, Nat.reduceLT, Nat.reduceEqDiff, Nat.reduceAdd, Nat.reduceMul, Nat.reduceLeDiff, Nat.le_refl, reduceIte, reduceCtorEq]; refine η _ ?_; clear η κ) | (refine r_nil (hK _ ?_); clear hE hK E K) | refine q_seq ?_
  refine c_loop (fun m s' => ∃ k, m = l.length - k ∧ k ≤ l.length ∧ (∀ (j : Nat) y, j < k → l[j]? = some y → p y = false) ∧ ∃ F, s' = nf 19 F o [(0, .t (rL l)), (1, .fn f [] caps), (7, .t (.i .i64 l.length)), (8, .t (.i .i64 k))] []) l.length ?_ ?_
  · exact ⟨0, by omega, by omega, fun j x hj => absurd hj (Nat.not_lt_zero j), _, nf_of rfl ⟨rfl, rfl, rfl, rfl, trivial⟩ trivial⟩
  · rintro m s' ⟨k, rfl, hk, hno, F, rfl⟩
    simp only [rL]
    repeat' first | refine c_seq ?_ | refine c_reg' rfl fun K E hK hE => ?_ | (refine r_opN fun κ η => ?_; simp only [go_sem, Nat.reduceLT, Nat.reduceEqDiff, Nat.reduceAdd, Nat.reduceMul, Nat.reduceLeDiff, Nat.le_refl, reduceIte, reduceCtorEq]; refine η _ ?_; clear η κ) | (refine r_nil (hK _ ?_); clear hE hK E K) | refine q_seq ?_
    refine c_cond _ rfl (fun hq => ?_) (fun hq => ?_)
    · simp only [decide_eq_true_eq] at hq
      obtain ⟨x, hx⟩ : ∃ x, l[k]? = some x := ⟨_, List.getElem?_eq_getElem (by omega)⟩
      repeat' first | refine c_seq ?_ | refine c_block ?_ | refine c_reg' rfl fun K E hK hE => ?_ | (refine r_opN fun κ η => ?_; simp only [go_sem, Nat.reduceLT, Nat.reduceEqDiff, Nat.reduceAdd, Nat.reduceMul, Nat.reduceLeDiff, Nat.le_refl, reduceIte, reduceCtorEq, hx]; (repeat refine ⟨by omega, ?_⟩); refine η _ ?_; clear η κ) | (refine r_nil (hK _ ?_); clear hE hK E K) | refine q_seq ?_ | refine c_skip ?_
      refine r_call fun κ η => ?_; simp only [go_sem, Nat.reduceLT, Nat.reduceEqDiff, Nat.reduceAdd, Nat.reduceMul, Nat.reduceLeDiff, Nat.le_refl, reduceIte, reduceCtorEq]; refine ⟨_, h x (List.mem_of_getElem? hx), ?_⟩; rintro _ _ ⟨rfl, rfl⟩; simp only [go_sem, Nat.reduceLT, Nat.reduceEqDiff, Nat.reduceAdd, Nat.reduceMul, Nat.reduceLeDiff, Nat.le_refl, reduceIte, reduceCtorEq]; refine η _ ?_; clear η κ
      repeat' first | (refine r_nil (hK _ ?_); clear hE hK E K) | refine q_seq ?_
      refine c_cond _ rfl (fun hq2 => ?_) (fun hq2 => ?_)
      · repeat' first | refine c_seq ?_ | refine c_reg' rfl fun K E hK hE => ?_ | (refine r_opN fun κ η => ?_; simp only [go_sem, Nat.reduceLT, Nat.reduceEqDiff, Nat.reduceAdd, Nat.reduceMul, Nat.reduceLeDiff, Nat.le_refl, reduceIte, reduceCtorEq]; refine η _ ?_; clear η κ) | (refine r_nil (hK _ ?_); clear hE hK E K) | refine q_seq ?_ | refine c_ret ?_ | refine q_seqR ?_ | refine q_blkR ?_ | refine q_lpR ?_ | (refine q_ret ?_; refine q_r1 ?_; simp only [go_sem, Nat.reduceLT, Nat.reduceEqDiff, Nat.reduceAdd, Nat.reduceMul, Nat.reduceLeDiff, Nat.le_refl, reduceIte, reduceCtorEq])
        rw [ixI_some hx hq2 hno]
      · repeat' first | refine c_reg' rfl fun K E hK hE => ?_ | (refine r_opN fun κ η => ?_; simp only [go_sem, Nat.reduceLT, Nat.reduceEqDiff, Nat.reduceAdd, Nat.reduceMul, Nat.reduceLeDiff, Nat.le_refl, reduceIte, reduceCtorEq]; (repeat refine ⟨by omega, ?_⟩); refine η _ ?_; clear η κ) | (refine r_nil (hK _ ?_); clear hE hK E K) | refine q_seq ?_ | refine q_blk ?_ | refine c_skip ?_ | refine q_lpN ?_
        refine ⟨l.length - (k + 1), by omega, k + 1, rfl, by omega, fun j y hj hy => ?_, _, nf_of rfl ⟨rfl, rfl, rfl, rfl, trivial⟩ trivial⟩
        rcases Nat.lt_or_eq_of_le (Nat.lt_succ_iff.1 hj) with h | rfl
        · exact hno j y h hy
        · rw [hx] at hy; cases hy; exact hq2
    · simp only [decide_eq_false_iff_not] at hq
      repeat' first | refine c_seq ?_ | refine c_reg' rfl fun K E hK hE => ?_ | (refine r_opN fun κ η => ?_; simp only [go_sem, Nat.reduceLT, Nat.reduceEqDiff, Nat.reduceAdd, Nat.reduceMul, Nat.reduceLeDiff, Nat.le_refl, reduceIte, reduceCtorEq]; refine η _ ?_; clear η κ) | (refine r_nil (hK _ ?_); clear hE hK E K) | refine q_seq ?_ | refine c_exit ?_ | refine c_ret ?_ | refine q_seqE ?_ | refine q_blkHit ?_ | refine q_lpE ?_ | (refine q_ret ?_; refine q_r1 ?_; simp only [go_sem, Nat.reduceLT, Nat.reduceEqDiff, Nat.reduceAdd, Nat.reduceMul, Nat.reduceLeDiff, Nat.le_refl, reduceIte, reduceCtorEq])
      rw [ixI_none (fun j y hj hy => hno j y (by omega) hy)]
theorem containsAll_cm {o : Nat → O} {l : List Row} (hl : l.length ≤ 1000000) (hn : ∀ r ∈ l, r.length ≤ 1000000) :
    Cm Tryd.prog Hy 48 [.t (rL l), .fn 49 [] []] o fun rs o' => rs = [.t (.b (l.any isAllB))] ∧ o = o' := by
  have h : Fn Hy 49 [] o (fun x : Row => [.t (.s (mk x))]) isAllB l := fun x hx => Cm.of_ct (isAll_ct Hy x (hn x hx))
  refine cm_of (cls := _root_.id) tt_ok follows_ Tryd.func48 rfl (by decide) (Nat.le_of_ble_eq_true rfl) ?_
  rw [show Tryd.f48.ntmps = 9 from rfl, s0_nf]
  simp only [List.zipIdx_cons, List.zipIdx_nil, List.map_cons, List.map_nil, Nat.reduceAdd]
  repeat' first | refine c_seq ?_ | refine c_reg' rfl fun K E hK hE => ?_ | (refine r_opN fun κ η => ?_; simp only [go_sem, Nat.reduceLT, Nat.reduceEqDiff, Nat.reduceAdd, Nat.reduceMul, Nat.reduceLeDiff, Nat.le_refl, reduceIte, reduceCtorEq]; refine η _ ?_; clear η κ) | (refine r_nil (hK _ ?_); clear hE hK E K) | refine q_seq ?_
  refine r_call fun κ η => ?_; simp only [go_sem, Nat.reduceLT, Nat.reduceEqDiff, Nat.reduceAdd, Nat.reduceMul, Nat.reduceLeDiff, Nat.le_refl, reduceIte, reduceCtorEq]; refine ⟨_, indexFuncS_cm Hy hl h, ?_⟩; rintro _ _ ⟨rfl, rfl⟩; simp only [go_sem, Nat.reduceLT, Nat.reduceEqDiff, Nat.reduceAdd, Nat.reduceMul, Nat.reduceLeDiff, Nat.le_refl, reduceIte, reduceCtorEq]; refine η _ ?_; clear η κ
  repeat' first | (refine r_opN fun κ η => ?_; simp only [go_sem, Nat.reduceLT, Nat.reduceEqDiff, Nat.reduceAdd, Nat.reduceMul, Nat.reduceLeDiff, Nat.le_refl, reduceIte, reduceCtorEq, ixI_ge]; refine η _ ?_; clear η κ) | (refine r_nil (hK _ ?_); clear hE hK E K) | refine q_seq ?_ | refine c_ret ?_ | (refine q_ret ?_; refine q_r1 ?_; simp only [go_sem, Nat.reduceLT, Nat.reduceEqDiff, Nat.reduceAdd, Nat.reduceMul, Nat.reduceLeDiff, Nat.le_refl, reduceIte, reduceCtorEq, ixI_ge])
end Go.Proofs.YtfflfmpkjcomgaaDoor
