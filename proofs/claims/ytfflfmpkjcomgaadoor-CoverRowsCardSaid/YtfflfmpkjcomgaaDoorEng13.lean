/- The engine, 13: a region that draws its order comes to what it comes to in the order of its text. -/
import Derived.Test.YtfflfmpkjcomgaaDoorEngN
import Derived.Orders
namespace Go.Proofs.YtfflfmpkjcomgaaDoor
open Go.RowKit

/-- operations that look at no object -/
def isN : Op → Bool
  | .move _ => true
  | .assign _ => true
  | .pick .. => true
  | .extract .. => true
  | .makeFunc .. => true
  | .binOp .. => true
  | .unOp .. => true
  | .convert .. => true
  | .field .. => true
  | _ => false
def rdO (o : Oper) (s : S) : List Nat := match isN o.op with
  | true => []
  | false => s.ids o.op.operands.toList
def wrO (cls : Nat → Nat) (o : Oper) (s : S) : List Nat := match isE o.op with
  | true => wids cls o.dst s o.op.operands.toList
  | false => []
def preds (o : Oper) : List Nat := (o.after.toList.filter fun e => Region.binds .any e).map (·.on)
def bfRow (acc : List Nat) (o : Oper) : Nat := (preds o).foldl (fun m k => m ||| (acc.getD k 0 ||| 2 ^ k)) 0
def bfGo : List Oper → List Nat → List Nat
  | [], acc => acc
  | o :: os, acc => bfGo os (acc ++ [bfRow acc o])
/-- which operations stand ahead of which -/
def bfs (ops : List Oper) : List Nat := bfGo ops []
def dis (l m : List Nat) : Bool := l.all fun x => !m.contains x
def okAt (bf : Nat) (R W : List Nat) (fps : List (List Nat × List Nat)) : Bool := (W.isEmpty && fps.all (·.2.isEmpty)) || ((List.range fps.length).all fun j => bf.testBit j || (dis (fps.getD j ([], [])).2 (R ++ W) && dis W ((fps.getD j ([], [])).1 ++ (fps.getD j ([], [])).2)))
def stat (ops : List Oper) : Bool := (List.range ops.length).all fun i => match ops[i]? with
  | some o => ((preds o).all fun k => decide (k < i)) && (List.range i).all fun j => ((bfs ops).getD i 0).testBit j || (match ops[j]? with
    | some x => x.apart ops.toArray o
    | none => true)
  | none => true

/-- one operation, with what it looks at and what it turns -/
def opX (P : Program) (Hy : World → Prop) (tt : Tys) (cls : Nat → Nat) (ops : List Oper) (o : Oper) (s : S) (R W : List Nat) (K : S → Prop) : Prop := (R = rdO o s ∧ W = wrO cls o s ∧ opK P Hy tt cls ops o s K) ∨ (∃ c, R = rdO o s ∧ W = wrO c o s ∧ opK P Hy tt c ops o s K) ∨ opD P Hy ops o s R W K
/-- all that stand ahead come ahead of it, and all that stand behind come behind it -/
def barr (ops : List Oper) (i : Nat) : Bool := ((List.range i).all fun j => ((bfs ops).getD i 0).testBit j) && ((List.range ops.length).all fun k => decide (k ≤ i) || ((bfs ops).getD k 0).testBit i)
def runD (P : Program) (Hy : World → Prop) (tt : Tys) (cls : Nat → Nat) (E : Env) (ops : List Oper) : List Oper → Nat → S → List (List Nat × List Nat) → (S → Prop) → Prop
  | [], _, s, _, K => K s
  | o :: os, i, s, fps, K => (∃ R W, okAt ((bfs ops).getD i 0) R W fps = true ∧ opX P Hy tt cls ops o s R W fun s' => runD P Hy tt cls E ops os (i + 1) s' (fps ++ [(R, W)]) K) ∨
    (barr ops i = true ∧ stepM P Hy tt cls E ops o s fun s' => runD P Hy tt cls E ops os (i + 1) s' (fps ++ [([], [])]) K)

inductive Bef (ops : List Oper) : Nat → Nat → Prop where
  | one {k i : Nat} {o : Oper} (h : ops[i]? = some o) (hk : k ∈ preds o) : Bef ops k i
  | step {k m i : Nat} {o : Oper} (h : ops[i]? = some o) (hm : m ∈ preds o) (hk : Bef ops k m) : Bef ops k i

theorem bfRow_mem (acc : List Nat) (k : Nat) : ∀ (l : List Nat) (m : Nat), (l.foldl (fun m k => m ||| (acc.getD k 0 ||| 2 ^ k)) m).testBit k = true → m.testBit k = true ∨ ∃ p ∈ l, k = p ∨ (acc.getD p 0).testBit k = true
  | [], m, h => .inl h
  | p :: l, m, h => by
    rcases bfRow_mem acc k l _ h with h | ⟨q, hq, h⟩
    · rw [Nat.testBit_or, Nat.testBit_or, Nat.testBit_two_pow, Bool.or_eq_true, Bool.or_eq_true, decide_eq_true_eq] at h
      rcases h with h | h | h
      · exact .inl h
      · exact .inr ⟨p, List.mem_cons_self, .inr h⟩
      · exact .inr ⟨p, List.mem_cons_self, .inl h.symm⟩
    · exact .inr ⟨q, List.mem_cons_of_mem _ hq, h⟩
theorem bfGo_ok (ops : List Oper) : ∀ (os : List Oper) (acc : List Nat), ops.drop acc.length = os → (∀ i k, (acc.getD i 0).testBit k = true → Bef ops k i) → ∀ i k, ((bfGo os acc).getD i 0).testBit k = true → Bef ops k i
  | [], acc, _, h => h
  | o :: os, acc, hd, h => by
    have ho : ops[acc.length]? = some o := by
      have : (ops.drop acc.length)[0]? = some o := by rw [hd]; rfl
      rwa [List.getElem?_drop, Nat.add_zero] at this
    refine bfGo_ok ops os (acc ++ [bfRow acc o]) ?_ (fun i k hk => ?_)
    · rw [List.length_append, List.length_singleton, ← List.drop_drop, hd]
      rfl
    · by_cases hi : i < acc.length
      · rw [List.getD_eq_getElem?_getD, List.getElem?_append_left hi, ← List.getD_eq_getElem?_getD] at hk
        exact h i k hk
      · by_cases hi2 : i = acc.length
        · subst hi2
          rw [List.getD_eq_getElem?_getD, List.getElem?_append_right (Nat.le_refl _), Nat.sub_self] at hk
          rcases bfRow_mem acc k _ _ hk with hk | ⟨m, hm, rfl | hk⟩
          · rw [Nat.zero_testBit] at hk
            cases hk
          · exact .one ho hm
          · exact .step ho hm (h m k hk)
        · rw [List.getD_eq_getElem?_getD, List.getElem?_append_right (by omega)] at hk
          rw [List.getElem?_eq_none (by simp; omega), Option.getD_none, Nat.zero_testBit] at hk
          cases hk
theorem bfs_ok {ops : List Oper} {i k : Nat} (h : ((bfs ops).getD i 0).testBit k = true) : Bef ops k i :=
  bfGo_ok ops ops [] rfl (fun i k hk => by rw [show ([] : List Nat).getD i 0 = 0 from rfl, Nat.zero_testBit] at hk; cases hk) i k h

section
variable {P : Program} {tt : Tys} {Hy : World → Prop} {cls : Nat → Nat} {s : S}

structure AgrO (ops : List Oper) (cls : Nat → Nat) (o : Oper) (s s2 : S) : Prop where
  n : s2.n = s.n
  tm : ∀ t ∈ o.looksAt ops.toArray, s2.t t = s.t t
  o : ∀ id, id ∈ rdO o s ∨ id ∈ wrO cls o s → s2.o id = s.o id

theorem AgrO.ev {ops : List Oper} {o : Oper} {s2 : S} (h : AgrO ops cls o s s2) : ∀ x ∈ o.op.operands.toList, s2.ev x = s.ev x := fun x hx => by
  cases x with
  | tmp t =>
    have := h.tm t (List.mem_append_left _ (List.mem_filterMap.2 ⟨.tmp t, hx, rfl⟩))
    unfold S.ev
    simp only [h.n, this]
  | _ => rfl
theorem AgrO.agr {ops : List Oper} {o : Oper} {s2 : S} (hn : isN o.op = false) (h : AgrO ops cls o s s2) : Agr o.op.operands.toList s s2 :=
  ⟨h.ev, fun id hid => h.o id (.inl (by unfold rdO; rw [hn]; exact hid))⟩
theorem isE_N {op : Op} (h : isE op = true) : isN op = false := by
  cases op <;> first | rfl | cases h
theorem pureN_D {op : Op} (hn : isN op = true) {K : A → Prop} (hk : Pk tt op s K) : ∃ y, K y ∧ ∀ (s2 : S) (K2 : A → Prop), (∀ x ∈ op.operands.toList, s2.ev x = s.ev x) → K2 y → Pk tt op s2 K2 := by
  obtain ⟨y, h1, h2⟩ := pure_D hk
  refine ⟨y, h1, fun s2 K2 he hK => ?_⟩
  have h := h2 ⟨s2.n, s2.t, s.o⟩ K2 ⟨fun x hx => by rw [← he x hx]; cases x <;> rfl, fun _ _ => rfl⟩ hK
  cases op <;> first | (cases hn; done) | exact h | (rename_i u _ _; cases u <;> exact h)

theorem op_D {ops : List Oper} {o : Oper} {K : S → Prop} (hk : opK P Hy tt cls ops o s K) : ∃ up y, (∀ p ∈ up, p.1 ∈ wrO cls o s) ∧ K (upd s up o.dst y) ∧ ∀ (s2 : S) (K2 : S → Prop), AgrO ops cls o s s2 → K2 (upd s2 up o.dst y) → opK P Hy tt cls ops o s2 K2 := by
  have one : ∀ {K : S → Prop}, op1 P Hy tt cls o s K → ∃ up y, (∀ p ∈ up, p.1 ∈ wrO cls o s) ∧ K (upd s up o.dst y) ∧ ∀ (s2 : S) (K2 : S → Prop), AgrO ops cls o s s2 → K2 (upd s2 up o.dst y) → op1 P Hy tt cls o s2 K2 := fun {K} hk => by
    unfold op1 at hk
    split at hk
    · rename_i he
      obtain ⟨up, y, h1, h2, h3⟩ := eff_D hk
      have hw : wrO cls o s = wids cls o.dst s o.op.operands.toList := by unfold wrO; rw [he]
      refine ⟨up, y, by rw [hw]; exact h1, h2, fun s2 K2 hA hK => ?_⟩
      unfold op1
      rw [he]
      exact h3 s2 K2 (hA.agr (isE_N he)) (fun id hid => hA.o id (.inr (by rw [hw]; exact hid))) hK
    · rename_i he
      cases hn : isN o.op with
      | true =>
        obtain ⟨y, h1, h2⟩ := pureN_D hn hk
        refine ⟨[], y, fun _ h => (by cases h), h1, fun s2 K2 hA hK => ?_⟩
        unfold op1
        rw [he]
        exact h2 s2 _ hA.ev hK
      | false =>
        obtain ⟨y, h1, h2⟩ := pure_D hk
        refine ⟨[], y, fun _ h => (by cases h), h1, fun s2 K2 hA hK => ?_⟩
        unfold op1
        rw [he]
        exact h2 s2 _ (hA.agr hn) hK
  unfold opK at hk
  split at hk
  · rename_i hg
    obtain ⟨up, y, h1, h2, h3⟩ := one hk
    refine ⟨up, y, h1, h2, fun s2 K2 hA hK => ?_⟩
    unfold opK
    rw [hg]
    exact h3 s2 K2 hA hK
  · rename_i g want hg
    split at hk
    · rename_i t ht
      obtain ⟨htn, hk⟩ := hk
      have hl : t ∈ o.looksAt ops.toArray := by
        refine List.mem_append_right _ ?_
        rw [hg]
        simp [ht]
      split at hk
      · rename_i q e
        by_cases hw : q = want
        · obtain ⟨up, y, h1, h2, h3⟩ := one (hk.1 hw)
          refine ⟨up, y, h1, h2, fun s2 K2 hA hK => ?_⟩
          unfold opK
          rw [hg]
          simp only [ht, hA.n, hA.tm t hl, e]
          exact ⟨htn, fun _ => h3 s2 K2 hA hK, fun h => absurd hw (by rw [h]; cases want <;> simp)⟩
        · have hq : q = !want := by cases q <;> cases want <;> simp_all
          refine ⟨[], .tup [], fun _ h => (by cases h), hk.2 hq, fun s2 K2 hA hK => ?_⟩
          unfold opK
          rw [hg]
          simp only [ht, hA.n, hA.tm t hl, e]
          exact ⟨htn, fun h => absurd h hw, fun _ => hK⟩
      · rename_i e
        refine ⟨[], .tup [], fun _ h => (by cases h), hk, fun s2 K2 hA hK => ?_⟩
        unfold opK
        rw [hg]
        simp only [ht, hA.n, hA.tm t hl, e]
        exact ⟨htn, hK⟩
      · exact hk.elim
    · exact hk.elim

structure AgrX (ops : List Oper) (R W : List Nat) (o : Oper) (s s2 : S) : Prop where
  n : s2.n = s.n
  tm : ∀ t ∈ o.looksAt ops.toArray, s2.t t = s.t t
  o : ∀ id, id ∈ R ∨ id ∈ W → s2.o id = s.o id
/-- an operation, as a turn that other states bear as well -/
def Turn (P : Program) (Hy : World → Prop) (tt : Tys) (cls : Nat → Nat) (ops : List Oper) (o : Oper) (R W : List Nat) (up : List (Nat × O)) (y : A) (s2 : S) : Prop := ∀ K2 : S → Prop, K2 (upd s2 up o.dst y) → opK P Hy tt cls ops o s2 K2 ∨ (∃ c, opK P Hy tt c ops o s2 K2) ∨ opD P Hy ops o s2 R W K2
theorem op_X {ops : List Oper} {o : Oper} {R W : List Nat} {K : S → Prop} (hk : opX P Hy tt cls ops o s R W K) : ∃ up y, (∀ p ∈ up, p.1 ∈ W) ∧ K (upd s up o.dst y) ∧ ∀ s2 : S, AgrX ops R W o s s2 → Turn P Hy tt cls ops o R W up y s2 := by
  rcases hk with ⟨rfl, rfl, hk⟩ | ⟨c, rfl, rfl, hk⟩ | hk
  · obtain ⟨up, y, h1, h2, h3⟩ := op_D hk
    exact ⟨up, y, h1, h2, fun s2 hA K2 hK => .inl (h3 s2 K2 ⟨hA.n, hA.tm, hA.o⟩ hK)⟩
  · obtain ⟨up, y, h1, h2, h3⟩ := op_D (cls := c) hk
    exact ⟨up, y, h1, h2, fun s2 hA K2 hK => .inr (.inl ⟨c, h3 s2 K2 ⟨hA.n, hA.tm, hA.o⟩ hK⟩)⟩
  · obtain ⟨hg, hk⟩ := hk
    have hgA : ∀ s2 : S, AgrX ops R W o s s2 → gOk ops o s2 := fun s2 hA => by
      unfold gOk at hg ⊢
      split at hg
      · trivial
      · rename_i g want e
        split at hg
        · rename_i t ht
          have hl : t ∈ o.looksAt ops.toArray := by
            refine List.mem_append_right _ ?_
            rw [e]
            simp [ht]
          rw [hA.n, hA.tm t hl]
          exact hg
        · exact hg.elim
    have ev : ∀ s2 : S, AgrX ops R W o s s2 → ∀ x ∈ o.op.operands.toList, s2.ev x = s.ev x := fun s2 h x hx => by
      cases x with
      | tmp t =>
        have := h.tm t (List.mem_append_left _ (List.mem_filterMap.2 ⟨.tmp t, hx, rfl⟩))
        unfold S.ev
        simp only [h.n, this]
      | _ => rfl
    obtain ⟨dst, op, type, pos, after, guard⟩ := o
    cases op <;> first | exact hk.elim | skip
    rename_i c
    obtain ⟨callee, args, tys⟩ := c
    have hargs : ∀ f, callee = .value f → ∀ s2 : S, AgrX ops R W ⟨dst, .call ⟨callee, args, tys⟩, type, pos, after, guard⟩ s s2 → args.toList.map s2.ev = args.toList.map s.ev := fun f hf s2 hA => List.map_congr_left (fun x hx => ev s2 hA x (by
      subst hf
      simp [Op.operands, Call.operands]; right; simpa using hx))
    have inW : ∀ {up : List (Nat × O)}, (up.all fun p => W.contains p.1) = true → ∀ p ∈ up.reverse, p.1 ∈ W := fun h p hp => by
      have := List.all_eq_true.1 h p (List.mem_reverse.1 hp)
      simpa using this
    cases callee with
    | builtin b => exact hk.elim
    | invoke r m => exact hk.elim
    | value f =>
      cases f with
      | const v => exact hk.elim
      | global g => exact hk.elim
      | func f =>
        obtain ⟨up, y, h1, hc, hk⟩ := hk
        refine ⟨up.reverse, y, inW h1, hk, fun s2 hA K2 hK => .inr (.inr ⟨hgA s2 hA, up, y, h1, ?_, hK⟩)⟩
        rw [hargs _ rfl s2 hA]
        exact hc.agr fun id hid => hA.o id (List.mem_append.1 hid)
      | tmp t =>
        simp only at hk
        split at hk
        · rename_i f l m e
          obtain ⟨up, y, h1, hc, hk⟩ := hk
          refine ⟨up.reverse, y, inW h1, hk, fun s2 hA K2 hK => .inr (.inr ⟨hgA s2 hA, ?_⟩)⟩
          have e2 : s2.ev (.tmp t) = .fn f l m := by rw [ev s2 hA _ (by simp [Op.operands, Call.operands]), e]
          simp only [e2]
          refine ⟨up, y, h1, ?_, hK⟩
          rw [hargs _ rfl s2 hA]
          exact hc.agr fun id hid => hA.o id (List.mem_append.1 hid)
        · exact hk.elim

theorem ob_t (s : S) (up : List (Nat × O)) : (up.foldl (fun s p => s.ob p.1 p.2) s).t = s.t ∧ (up.foldl (fun s p => s.ob p.1 p.2) s).n = s.n := by
  induction up generalizing s with
  | nil => exact ⟨rfl, rfl⟩
  | cons p up ih => exact ih (s.ob p.1 p.2)
theorem ob_o (up : List (Nat × O)) (id : Nat) : ∀ s : S, id ∉ up.map (·.1) → (up.foldl (fun s p => s.ob p.1 p.2) s).o id = s.o id := by
  induction up with
  | nil => intro s _; rfl
  | cons p up ih =>
    intro s h
    rw [List.map_cons, List.mem_cons, not_or] at h
    rw [List.foldl_cons, ih _ h.2]
    exact if_neg h.1
theorem ob_o_same (up : List (Nat × O)) (id : Nat) : ∀ s s2 : S, s.o id = s2.o id → (up.foldl (fun s p => s.ob p.1 p.2) s).o id = (up.foldl (fun s p => s.ob p.1 p.2) s2).o id := by
  induction up with
  | nil => intro s s2 h; exact h
  | cons p up ih =>
    intro s s2 h
    refine ih _ _ ?_
    unfold S.ob
    dsimp only
    split
    · rfl
    · exact h
theorem ob_o_in (up : List (Nat × O)) (id : Nat) : ∀ s s2 : S, id ∈ up.map (·.1) → (up.foldl (fun s p => s.ob p.1 p.2) s).o id = (up.foldl (fun s p => s.ob p.1 p.2) s2).o id := by
  induction up with
  | nil => intro s s2 h; cases h
  | cons p up ih =>
    intro s s2 h
    rw [List.foldl_cons, List.foldl_cons]
    by_cases hin : id ∈ up.map (·.1)
    · exact ih _ _ hin
    · rw [List.map_cons] at h
      have e : id = p.1 := (List.mem_cons.1 h).resolve_right hin
      refine ob_o_same up id _ _ ?_
      unfold S.ob
      dsimp only
      rw [if_pos e, if_pos e]
theorem put_t (s : S) (d : Option Nat) (y : A) (t : Nat) : (s.put d y).t t = if d = some t then y else s.t t := by
  cases d with
  | none => rfl
  | some d =>
    unfold S.put
    dsimp only
    by_cases h : t = d
    · rw [if_pos h, if_pos (by rw [h])]
    · rw [if_neg h, if_neg (fun e => h (Option.some.inj e).symm)]
theorem put_o (s : S) (d : Option Nat) (y : A) : (s.put d y).o = s.o := by cases d <;> rfl
theorem put_n (s : S) (d : Option Nat) (y : A) : (s.put d y).n = s.n := by cases d <;> rfl
theorem upd_t (s : S) (up : List (Nat × O)) (d : Option Nat) (y : A) (t : Nat) : (upd s up d y).t t = if d = some t then y else s.t t := by
  unfold upd
  rw [put_t, (ob_t s up).1]
theorem upd_o (s : S) (up : List (Nat × O)) (d : Option Nat) (y : A) : (upd s up d y).o = (up.foldl (fun s p => s.ob p.1 p.2) s).o := put_o _ _ _
theorem upd_n (s : S) (up : List (Nat × O)) (d : Option Nat) (y : A) : (upd s up d y).n = s.n := (put_n _ _ _).trans (ob_t s up).2

theorem S.ext3 {s s2 : S} (h1 : s.n = s2.n) (h2 : ∀ t, s.t t = s2.t t) (h3 : ∀ id, s.o id = s2.o id) : s = s2 := by
  cases s; cases s2
  simp only [S.mk.injEq]
  exact ⟨h1, funext h2, funext h3⟩

theorem upd_comm (s : S) (u1 u2 : List (Nat × O)) (d1 d2 : Option Nat) (y1 y2 : A) (hd : ∀ t, d1 = some t → d2 ≠ some t) (hu : ∀ id, id ∈ u1.map (·.1) → id ∉ u2.map (·.1)) :
    upd (upd s u1 d1 y1) u2 d2 y2 = upd (upd s u2 d2 y2) u1 d1 y1 := by
  refine S.ext3 (by simp only [upd_n]) (fun t => ?_) (fun id => ?_)
  · simp only [upd_t]
    by_cases h1 : d1 = some t
    · rw [if_pos h1, if_neg (hd t h1), if_pos h1]
    · rw [if_neg h1, if_neg h1]
  · rw [upd_o, upd_o]
    by_cases h1 : id ∈ u1.map (·.1)
    · rw [ob_o u2 id _ (hu id h1), upd_o, ob_o_in u1 id _ _ h1]
    · rw [ob_o u1 id _ h1, upd_o]
      refine ob_o_same u2 id _ _ ?_
      rw [upd_o, ob_o u1 id _ h1]

/-- what a run in the order of the text is made of, up to where one stands between all others -/
theorem runD_get {E : Env} (ops : List Oper) : ∀ (os : List Oper) (i : Nat) (s : S) (fps : List (List Nat × List Nat)) (K : S → Prop), i ≤ ops.length → ops.drop i = os → fps.length = i → runD P Hy tt cls E ops os i s fps K →
    ∃ (hi : Nat) (c : Nat → S) (up : Nat → List (Nat × O)) (y : Nat → A) (Rf Wf : Nat → List Nat), i ≤ hi ∧ hi ≤ ops.length ∧ c i = s ∧ ((hi = ops.length ∧ K (c hi)) ∨ ∃ o fps', ops[hi]? = some o ∧ barr ops hi = true ∧ fps'.length = hi ∧ stepM P Hy tt cls E ops o (c hi) fun s' => runD P Hy tt cls E ops (ops.drop (hi + 1)) (hi + 1) s' (fps' ++ [([], [])]) K) ∧
      ∀ j o, i ≤ j → j < hi → ops[j]? = some o →
      c (j + 1) = upd (c j) (up j) o.dst (y j) ∧ (∀ p ∈ up j, p.1 ∈ Wf j) ∧ (∀ s2 : S, AgrX ops (Rf j) (Wf j) o (c j) s2 → Turn P Hy tt cls ops o (Rf j) (Wf j) (up j) (y j) s2) ∧
      ∀ k, k < j → Bef ops k j ∨ ((k < i → dis (fps.getD k ([], [])).2 (Rf j ++ Wf j) = true ∧ dis (Wf j) ((fps.getD k ([], [])).1 ++ (fps.getD k ([], [])).2) = true) ∧
        (i ≤ k → ∀ x, ops[k]? = some x → dis (Wf k) (Rf j ++ Wf j) = true ∧ dis (Wf j) (Rf k ++ Wf k) = true))
  | [], i, s, fps, K, hle, hd, hf, hk => by
    have h2 : ops.length ≤ i := List.drop_eq_nil_iff.1 hd
    refine ⟨i, fun _ => s, fun _ => [], fun _ => .junk, fun _ => [], fun _ => [], Nat.le_refl _, hle, rfl, .inl ⟨by omega, hk⟩, fun j o hj hj2 ho => ?_⟩
    omega
  | o :: os, i, s, fps, K, hle, hd, hf, hk => by
    have ho : ops[i]? = some o := by
      have : (ops.drop i)[0]? = some o := by rw [hd]; rfl
      rwa [List.getElem?_drop, Nat.add_zero] at this
    have hil := (List.getElem?_eq_some_iff.1 ho).1
    have hd2 : ops.drop (i + 1) = os := by rw [← List.drop_drop, hd]; rfl
    rcases hk with ⟨R0, W0, hok, hk⟩ | ⟨hb, hk⟩
    · obtain ⟨u, z, h1, hk, h3⟩ := op_X hk
      obtain ⟨hi, c, up, y, Rf, Wf, g0, g01, g1, g2, g3⟩ := runD_get ops os (i + 1) _ _ K hil hd2 (by rw [List.length_append, hf]; rfl) hk
      have hne : hi ≠ i := by omega
      refine ⟨hi, fun j => if j = i then s else c j, fun j => if j = i then u else up j, fun j => if j = i then z else y j, fun j => if j = i then R0 else Rf j, fun j => if j = i then W0 else Wf j, by omega, g01, if_pos rfl, ?_, fun j x hj hj2 hx => ?_⟩
      · dsimp only
        rw [if_neg hne]
        exact g2
      · by_cases hji : j = i
        · subst hji
          rw [ho] at hx
          cases hx
          dsimp only
          rw [if_neg (by omega)]
          simp only [↓reduceIte]
          refine ⟨g1, h1, h3, fun k hk => ?_⟩
          by_cases hb : ((bfs ops).getD j 0).testBit k = true
          · exact .inl (bfs_ok hb)
          · right
            refine ⟨fun _ => ?_, fun h => absurd hk (by omega)⟩
            unfold okAt at hok
            rw [Bool.or_eq_true] at hok
            rcases hok with hok | hok
            · rw [Bool.and_eq_true] at hok
              have e1 : W0 = [] := List.isEmpty_iff.1 hok.1
              have e2 : (fps.getD k ([], [])).2 = [] := by
                have hkl : k < fps.length := by omega
                have := List.all_eq_true.1 hok.2 fps[k] (List.getElem_mem hkl)
                rw [List.getD_eq_getElem?_getD, List.getElem?_eq_getElem hkl]
                exact List.isEmpty_iff.1 this
              rw [e1, e2]
              exact ⟨rfl, rfl⟩
            · have := List.all_eq_true.1 hok k (List.mem_range.2 (by omega))
              rw [Bool.or_eq_true, Bool.and_eq_true] at this
              rcases this with h | h
              · exact absurd h hb
              · exact h
        · obtain ⟨q1, q2, q3, q4⟩ := g3 j x (by omega) hj2 hx
          dsimp only
          rw [if_neg (by omega)]
          simp only [if_neg hji]
          refine ⟨q1, q2, q3, fun k hk => ?_⟩
          rcases q4 k hk with h | ⟨p1, p2⟩
          · exact .inl h
          · right
            refine ⟨fun hki => ?_, fun hki x' hx' => ?_⟩
            · have := p1 (by omega)
              rwa [List.getD_eq_getElem?_getD, List.getElem?_append_left (by omega), ← List.getD_eq_getElem?_getD] at this
            · by_cases hk2 : k = i
              · subst hk2
                rw [ho] at hx'
                cases hx'
                simp only [↓reduceIte]
                have := p1 (by omega)
                rw [List.getD_eq_getElem?_getD, List.getElem?_append_right (by omega), hf, Nat.sub_self] at this
                exact this
              · simp only [if_neg hk2]
                exact p2 (by omega) x' hx'
    · refine ⟨i, fun _ => s, fun _ => [], fun _ => .junk, fun _ => [], fun _ => [], Nat.le_refl _, hle, rfl, .inr ⟨o, fps, ho, hb, hf, ?_⟩, fun j x hj hj2 => by omega⟩
      rw [hd2]
      exact hk
end
end Go.Proofs.YtfflfmpkjcomgaaDoor
