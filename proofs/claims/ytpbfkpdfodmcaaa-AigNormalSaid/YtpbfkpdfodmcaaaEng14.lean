/- The engine, 14: regions that draw; code with them. -/
import Derived.Test.YtpbfkpdfodmcaaaEng13
namespace Go.Proofs.Ytpbfkpdfodmcaaa
open Go.RowKit

theorem range_split (N i : Nat) (h : i < N) : ∃ r, List.range N = List.range i ++ i :: r ∧ ∀ k ∈ r, i < k ∧ k < N := by
  refine ⟨(List.range (N - i - 1)).map (i + 1 + ·), ?_, fun k hk => ?_⟩
  · conv => lhs; rw [show N = i + 1 + (N - i - 1) by omega, List.range_add, List.range_succ]
    simp
  · obtain ⟨j, hj, rfl⟩ := List.mem_map.1 hk
    have := List.mem_range.1 hj
    omega

section
variable {P : Program} {tt : Tys} {Hy : World → Prop} {X : World → (Nat → Prop) → (Nat → O) → (Nat → Value) → Prop} {cls : Nat → Nat} {B : Nat} {St : Nat → Prop} {Dp : List Deferred → Prop} {w0 : World}

theorem Rel.drew {s : S} {ι : Nat → Value} {a : Act} {w : World} (h : Rel Hy X B St w0 Dp s ι a w) : Rel Hy X B St w0 Dp s ι a { w with drawn := w.drawn + 1 } :=
  h.keep (w' := w.drew) ((Below.refl w.heap.size w).drew) none .junk undef (fun h => absurd rfl h)

theorem opX_ok {ro : Option Nat} {n : Nat} (hT : Tys.ok P tt) {s : S} {ι : Nat → Value} {a : Act} {w : World} (h : Rel Hy X B St w0 Dp s ι a w) {Q : Exit → Act → World → Prop} {ops : Array Oper} {i : Nat} {o : Oper} (ho : ops[i]? = some o) {R W : List Nat} {K : S → Prop} {K' : Act → World → Prop} (hs : Sim Hy X B St w0 Dp K K')
    (hk : opK P Hy tt cls ops.toList o s K ∨ opD P Hy ops.toList o s R W K) : wpOpIn (FW ro) n P ops Q i K' a w := hk.elim (fun hk => opK_ok hT h ho hs hk) (fun hk => opM_ok h ho hs (opD_M hk))
/-- all that is known of a run in the order of the text -/
structure Run (P : Program) (Hy : World → Prop) (tt : Tys) (cls : Nat → Nat) (ops : Array Oper) (c : Nat → S) (up : Nat → List (Nat × O)) (y : Nat → A) (Rf Wf : Nat → List Nat) : Prop where
  nxt : ∀ j o, ops[j]? = some o → c (j + 1) = upd (c j) (up j) o.dst (y j)
  wr : ∀ j o, ops[j]? = some o → ∀ p ∈ up j, p.1 ∈ Wf j
  ok : ∀ j o, ops[j]? = some o → ∀ s2 : S, AgrX ops.toList (Rf j) (Wf j) o (c j) s2 → Turn P Hy tt cls ops.toList o (Rf j) (Wf j) (up j) (y j) s2
  dis : ∀ j o k x, ops[j]? = some o → ops[k]? = some x → k < j → Bef ops.toList k j ∨ (dis (Wf k) (Rf j ++ Wf j) = true ∧ dis (Wf j) (Rf k ++ Wf k) = true)
  lt : ∀ i o, ops[i]? = some o → ∀ k ∈ preds o, k < i
  ap : ∀ j o k x, ops[j]? = some o → ops[k]? = some x → k < j → Bef ops.toList k j ∨ x.apart ops o = true

variable {ops : Array Oper} {c : Nat → S} {up : Nat → List (Nat × O)} {y : Nat → A} {Rf Wf : Nat → List Nat}

theorem run_get {s : S} {K : S → Prop} (hst : stat ops.toList = true) (hk : runD P Hy tt cls ops.toList ops.toList 0 s [] K) : ∃ c up y Rf Wf, c 0 = s ∧ K (c ops.size) ∧ Run P Hy tt cls ops c up y Rf Wf := by
  obtain ⟨c, up, y, Rf, Wf, h1, h2, h3⟩ := runD_get ops.toList ops.toList 0 s [] K rfl rfl hk
  have l : ∀ {j : Nat} {o : Oper}, ops[j]? = some o → ops.toList[j]? = some o := fun h => by simpa using h
  have st : ∀ i o, ops[i]? = some o → (∀ k ∈ preds o, k < i) ∧ ∀ k x, ops[k]? = some x → k < i → Bef ops.toList k i ∨ x.apart ops o = true := fun i o ho => by
    have hi := (List.getElem?_eq_some_iff.1 (l ho)).1
    have := List.all_eq_true.1 hst i (List.mem_range.2 hi)
    rw [l ho] at this
    dsimp only at this
    rw [Bool.and_eq_true] at this
    refine ⟨fun k hk => of_decide_eq_true (List.all_eq_true.1 this.1 k hk), fun k x hx hk => ?_⟩
    have h4 := List.all_eq_true.1 this.2 k (List.mem_range.2 hk)
    rw [l hx] at h4
    dsimp only at h4
    rw [Bool.or_eq_true] at h4
    rcases h4 with h4 | h4
    · exact .inl (bfs_ok h4)
    · right
      simpa using h4
  refine ⟨c, up, y, Rf, Wf, h1, by simpa using h2, ⟨fun j o ho => (h3 j o (Nat.zero_le _) (l ho)).1, fun j o ho => (h3 j o (Nat.zero_le _) (l ho)).2.1, fun j o ho => (h3 j o (Nat.zero_le _) (l ho)).2.2.1, fun j o k x ho hx hk => ?_, fun i o ho => (st i o ho).1, fun j o k x ho hx hk => (st j o ho).2 k x hx hk⟩⟩
  rcases (h3 j o (Nat.zero_le _) (l ho)).2.2.2 k hk with h | ⟨_, h⟩
  · exact .inl h
  · exact .inr (h (Nat.zero_le _) x (l hx))

/-- one operation's turn -/
def U (ops : Array Oper) (up : Nat → List (Nat × O)) (y : Nat → A) (s : S) (k : Nat) : S := upd s (up k) ((ops[k]?).bind (·.dst)) (y k)
/-- the state when these have been done -/
def stL (ops : Array Oper) (c0 : S) (up : Nat → List (Nat × O)) (y : Nat → A) (L : Nat → Bool) : S := ((List.range ops.size).filter L).foldl (U ops up y) c0

theorem fold_t (t : Nat) : ∀ (l : List Nat) (s s2 : S), s.t t = s2.t t → (l.foldl (U ops up y) s).t t = ((l.filter fun k => decide ((ops[k]?).bind (·.dst) = some t)).foldl (U ops up y) s2).t t
  | [], s, s2, h => h
  | k :: l, s, s2, h => by
    rw [List.foldl_cons, List.filter_cons]
    by_cases hd : (ops[k]?).bind (·.dst) = some t
    · rw [if_pos (by simpa using hd), List.foldl_cons]
      exact fold_t t l _ _ (by unfold U; rw [upd_t, upd_t, if_pos hd, if_pos hd])
    · rw [if_neg (by simpa using hd)]
      exact fold_t t l _ _ (by unfold U; rw [upd_t, if_neg hd]; exact h)
theorem fold_o (id : Nat) : ∀ (l : List Nat) (s s2 : S), s.o id = s2.o id → (l.foldl (U ops up y) s).o id = ((l.filter fun k => decide (id ∈ (up k).map (·.1))).foldl (U ops up y) s2).o id
  | [], s, s2, h => h
  | k :: l, s, s2, h => by
    rw [List.foldl_cons, List.filter_cons]
    by_cases hd : id ∈ (up k).map (·.1)
    · rw [if_pos (by simpa using hd), List.foldl_cons]
      exact fold_o id l _ _ (by unfold U; rw [upd_o, upd_o]; exact ob_o_same _ id _ _ h)
    · rw [if_neg (by simpa using hd)]
      exact fold_o id l _ _ (by unfold U; rw [upd_o, ob_o _ id _ hd]; exact h)
theorem fold_n : ∀ (l : List Nat) (s : S), (l.foldl (U ops up y) s).n = s.n
  | [], _ => rfl
  | k :: l, s => by rw [List.foldl_cons, fold_n l]; exact upd_n _ _ _ _

theorem dis_no {l m : List Nat} (h : dis l m = true) {x : Nat} (hx : x ∈ l) : x ∉ m := by
  have := List.all_eq_true.1 h x hx
  simpa using this

def Clo (ops : Array Oper) (L : Nat → Bool) : Prop := ∀ i o, ops[i]? = some o → L i = true → ∀ k ∈ preds o, L k = true
theorem Bef.clo {L : Nat → Bool} (hL : Clo ops L) {k i : Nat} (h : Bef ops.toList k i) : (∀ o, ops[i]? = some o → ∀ m ∈ preds o, L m = true) → L k = true := by
  induction h with
  | one h hk => exact fun hi => hi _ (by simpa using h) _ hk
  | @step m i o h hm hk ih =>
    intro hi
    have hmL : L m = true := hi o (by simpa using h) m hm
    exact ih (fun o' ho' => hL m o' ho' hmL)
theorem Bef.lt {k i : Nat} (hlt : ∀ i o, ops[i]? = some o → ∀ k ∈ preds o, k < i) (h : Bef ops.toList k i) : k < i := by
  induction h with
  | one h hk => exact hlt _ _ (by simpa using h) _ hk
  | step h hm hk ih => exact Nat.lt_trans ih (hlt _ _ (by simpa using h) _ hm)

theorem c_fold (hr : Run P Hy tt cls ops c up y Rf Wf) : ∀ i, i ≤ ops.size → c i = (List.range i).foldl (U ops up y) (c 0)
  | 0, _ => rfl
  | i + 1, h => by
    rw [List.range_succ, List.foldl_append, ← c_fold hr i (by omega)]
    have ho : ops[i]? = some ops[i] := Array.getElem?_eq_getElem (by omega)
    show _ = upd (c i) (up i) ((ops[i]?).bind (·.dst)) (y i)
    rw [hr.nxt i _ ho, ho]
    rfl
theorem c_st (hr : Run P Hy tt cls ops c up y Rf Wf) (i : Nat) (h : i ≤ ops.size) : c i = stL ops (c 0) up y fun k => decide (k < i) := by
  rw [c_fold hr i h]
  unfold stL
  congr 1
  have : List.range ops.size = List.range i ++ (List.range (ops.size - i)).map (i + ·) := by
    conv => lhs; rw [show ops.size = i + (ops.size - i) by omega, List.range_add]
  rw [this, List.filter_append, List.filter_eq_self.2 (fun k hk => by simpa using hk), List.filter_eq_nil_iff.2 (fun k hk => by
    obtain ⟨j, _, rfl⟩ := List.mem_map.1 hk
    simp), List.append_nil]

theorem st_same (L M : Nat → Bool) (q : Nat → Bool) (h : ∀ k, k < ops.size → q k = true → L k = M k) : ((List.range ops.size).filter L).filter q = ((List.range ops.size).filter M).filter q := by
  rw [List.filter_filter, List.filter_filter]
  refine List.filter_congr (fun k hk => ?_)
  cases hq : q k
  · rfl
  · rw [h k (List.mem_range.1 hk) hq]

/-- the next operation, in whatever order -/
theorem draw_op (hr : Run P Hy tt cls ops c up y Rf Wf) {L : Nat → Bool} (hL : Clo ops L) {i : Nat} {o : Oper} (ho : ops[i]? = some o) (hi : L i = false) (hp : ∀ k ∈ preds o, L k = true) :
    opK P Hy tt cls ops.toList o (stL ops (c 0) up y L) (fun s' => s' = stL ops (c 0) up y fun k => decide (k = i) || L k) ∨ opD P Hy ops.toList o (stL ops (c 0) up y L) (Rf i) (Wf i) (fun s' => s' = stL ops (c 0) up y fun k => decide (k = i) || L k) := by
  have hlt : i < ops.size := (Array.getElem?_eq_some_iff.1 ho).1
  have hpo : ∀ o', ops[i]? = some o' → ∀ m ∈ preds o', L m = true := fun o' ho' => by
    rw [ho] at ho'
    cases ho'
    exact hp
  have yes : ∀ k, Bef ops.toList k i → L k = true := fun k h => h.clo hL hpo
  have no : ∀ k, Bef ops.toList i k → L k = false := fun k h => by
    cases hk : L k
    · rfl
    · have : L i = true := by
        refine h.clo hL (fun o' ho' => hL k o' ho' hk)
      rw [hi] at this
      cases this
  have ldec : ∀ k, k ≠ i → Bef ops.toList k i ∨ Bef ops.toList i k → L k = decide (k < i) := fun k hne h => by
    rcases h with h | h
    · rw [yes k h, decide_eq_true (h.lt hr.lt)]
    · rw [no k h, decide_eq_false (Nat.lt_asymm (h.lt hr.lt))]
  refine hr.ok i o ho _ ⟨?_, fun t ht => ?_, fun id hid => ?_⟩ (fun s' => s' = stL ops (c 0) up y fun k => decide (k = i) || L k) ?_
  · unfold stL
    rw [fold_n]
    rw [c_fold hr i (by omega), fold_n]
  · rw [c_st hr i (by omega)]
    unfold stL
    rw [fold_t t _ _ (c 0) rfl, fold_t t ((List.range ops.size).filter fun k => decide (k < i)) _ (c 0) rfl]
    rw [st_same L (fun k => decide (k < i)) _ (fun k hk hq => ?_)]
    have hq : (ops[k]?).bind (·.dst) = some t := of_decide_eq_true hq
    have hkk : ops[k]? = some ops[k] := Array.getElem?_eq_getElem hk
    rw [hkk] at hq
    by_cases hki : k = i
    · rw [hki, hi, decide_eq_false (Nat.lt_irrefl i)]
    · refine ldec k hki ?_
      rcases Nat.lt_or_gt_of_ne hki with h | h
      · rcases hr.ap i o k _ ho hkk h with h | h
        · exact .inl h
        · exact absurd ht ((Oper.apart_spec h).1 t hq)
      · rcases hr.ap k _ i o hkk ho h with h | h
        · exact .inr h
        · exact absurd ht ((Oper.apart_spec h).2.2 t hq)
  · rw [c_st hr i (by omega)]
    unfold stL
    rw [fold_o id _ _ (c 0) rfl, fold_o id ((List.range ops.size).filter fun k => decide (k < i)) _ (c 0) rfl]
    rw [st_same L (fun k => decide (k < i)) _ (fun k hk hq => ?_)]
    have hq : id ∈ (up k).map (·.1) := of_decide_eq_true hq
    have hkk : ops[k]? = some ops[k] := Array.getElem?_eq_getElem hk
    have hw : id ∈ Wf k := by
      obtain ⟨p, hp2, rfl⟩ := List.mem_map.1 hq
      exact hr.wr k _ hkk p hp2
    have hid2 : id ∈ Rf i ++ Wf i := List.mem_append.2 hid
    by_cases hki : k = i
    · rw [hki, hi, decide_eq_false (Nat.lt_irrefl i)]
    · refine ldec k hki ?_
      rcases Nat.lt_or_gt_of_ne hki with h | h
      · rcases hr.dis i o k _ ho hkk h with h | ⟨h, _⟩
        · exact .inl h
        · exact absurd hid2 (dis_no h hw)
      · rcases hr.dis k _ i o hkk ho h with h | ⟨_, h⟩
        · exact .inr h
        · exact absurd hid2 (dis_no h hw)
  · obtain ⟨r, hrg, hrl⟩ := range_split ops.size i hlt
    unfold stL
    rw [hrg, List.filter_append, List.filter_append, List.filter_cons, List.filter_cons, hi]
    simp only [decide_true, Bool.true_or, if_true, Bool.false_eq_true, if_false]
    have e1 : (List.range i).filter (fun k => decide (k = i) || L k) = (List.range i).filter L := List.filter_congr (fun k hk => by
      rw [decide_eq_false (Nat.ne_of_lt (List.mem_range.1 hk)), Bool.false_or])
    have e2 : r.filter (fun k => decide (k = i) || L k) = r.filter L := List.filter_congr (fun k hk => by
      rw [decide_eq_false (Nat.ne_of_gt (hrl k hk).1), Bool.false_or])
    rw [e1, e2, List.foldl_append, List.foldl_append, List.foldl_cons]
    generalize ((List.range i).filter L).foldl (U ops up y) (c 0) = s1
    have com : ∀ (l : List Nat), (∀ k ∈ l, i < k ∧ k < ops.size ∧ L k = true) → ∀ s1 : S, upd (l.foldl (U ops up y) s1) (up i) o.dst (y i) = l.foldl (U ops up y) (U ops up y s1 i) := by
      intro l
      induction l with
      | nil =>
        intro _ s1
        show _ = upd s1 (up i) ((ops[i]?).bind (·.dst)) (y i)
        rw [ho]
        rfl
      | cons k l ih =>
        intro hl s1
        rw [List.foldl_cons, List.foldl_cons, ih (fun k hk => hl k (List.mem_cons_of_mem _ hk))]
        congr 1
        obtain ⟨h1, h2, h3⟩ := hl k List.mem_cons_self
        have hkk : ops[k]? = some ops[k] := Array.getElem?_eq_getElem h2
        have nb : ¬ Bef ops.toList i k := fun h => by
          rw [no k h] at h3
          cases h3
        have hap := (hr.ap k _ i o hkk ho h1).resolve_left nb
        have hds := (hr.dis k _ i o hkk ho h1).resolve_left nb
        unfold U
        rw [ho, hkk]
        refine (upd_comm s1 (up i) (up k) o.dst ops[k].dst (y i) (y k) (fun t ht => (Oper.apart_spec hap).2.1 t ht) (fun id hid hid2 => ?_)).symm
        have w1 : id ∈ Wf i := by
          obtain ⟨p, hp2, rfl⟩ := List.mem_map.1 hid
          exact hr.wr i _ ho p hp2
        have w2 : id ∈ Wf k := by
          obtain ⟨p, hp2, rfl⟩ := List.mem_map.1 hid2
          exact hr.wr k _ hkk p hp2
        exact dis_no hds.1 w1 (List.mem_append_right _ w2)
    exact com (r.filter L) (fun k hk => by
      obtain ⟨h1, h2⟩ := List.mem_filter.1 hk
      exact ⟨(hrl k h1).1, (hrl k h1).2, h2⟩) s1

def lst (listed : Array Bool) (k : Nat) : Bool := listed.getD k false
def left_ (ops : Array Oper) (listed : Array Bool) : Nat := ((List.range ops.size).filter fun k => !lst listed k).length

theorem all_listed (hr : Run P Hy tt cls ops c up y Rf Wf) {listed : Array Bool} (hz : listed.size = ops.size) (he : Region.ready .any ops listed = []) : ∀ k, k < ops.size → lst listed k = true := by
  intro k
  induction k using Nat.strongRecOn with
  | _ k ih =>
    intro hk
    cases hl : lst listed k
    · exfalso
      have hkk : ops[k]? = some ops[k] := Array.getElem?_eq_getElem hk
      have : k ∈ Region.ready .any ops listed := by
        unfold Region.ready
        refine List.mem_filter.2 ⟨List.mem_range.2 hk, ?_⟩
        rw [Bool.and_eq_true]
        refine ⟨?_, ?_⟩
        · unfold lst at hl
          have hkl : k < listed.size := by omega
          simp only [Array.getD_eq_getD_getElem?, Array.getElem?_eq_getElem hkl, Option.getD_some] at hl ⊢
          rw [hl]; rfl
        · rw [hkk]
          simp only [Option.map_some, Option.getD_some]
          rw [Array.all_eq_true_iff_forall_mem]
          intro e hem
          rw [Bool.or_eq_true]
          by_cases hb : Region.binds .any e = true
          · right
            have hp : e.on ∈ preds ops[k] := List.mem_map.2 ⟨e, List.mem_filter.2 ⟨by simpa using hem, hb⟩, rfl⟩
            have hlt := hr.lt k _ hkk _ hp
            exact ih e.on hlt (by omega)
          · left
            simpa using hb
      rw [he] at this
      cases this
    · rfl

theorem draw_any {ro : Option Nat} {n : Nat} (hT : Tys.ok P tt) (hr : Run P Hy tt cls ops c up y Rf Wf) {Q : Exit → Act → World → Prop} {K : S → Prop} (hK : K (c ops.size)) (hs : Sim Hy X B St w0 Dp K (Q .normal)) :
    ∀ (fuel : Nat) (listed : Array Bool) {ι : Nat → Value} {a : Act} {w : World}, listed.size = ops.size → Clo ops (lst listed) → left_ ops listed ≤ fuel → Rel Hy X B St w0 Dp (stL ops (c 0) up y (lst listed)) ι a w → wpAnyIn (FW ro) n P .any ops Q fuel listed a w := by
  have fin : ∀ (listed : Array Bool) {ι : Nat → Value} {a : Act} {w : World}, listed.size = ops.size → Region.ready .any ops listed = [] → Rel Hy X B St w0 Dp (stL ops (c 0) up y (lst listed)) ι a w → Q .normal a w := fun listed ι a w hz he h => by
    refine hs _ ι a w h ?_
    have : stL ops (c 0) up y (lst listed) = c ops.size := by
      rw [c_fold hr ops.size (Nat.le_refl _)]
      unfold stL
      rw [List.filter_eq_self.2 (fun k hk => all_listed hr hz he k (List.mem_range.1 hk))]
    rw [this]
    exact hK
  intro fuel
  induction fuel with
  | zero =>
    intro listed ι a w hz hc hf h
    have hall : ∀ k, k < ops.size → lst listed k = true := fun k hk => by
      cases hl : lst listed k
      · exfalso
        have : k ∈ (List.range ops.size).filter fun k => !lst listed k := List.mem_filter.2 ⟨List.mem_range.2 hk, by rw [hl]; rfl⟩
        have := List.length_pos_of_mem this
        unfold left_ at hf
        omega
      · rfl
    have he : Region.ready .any ops listed = [] := by
      rw [List.eq_nil_iff_forall_not_mem]
      intro k hk
      unfold Region.ready at hk
      obtain ⟨h1, h2⟩ := List.mem_filter.1 hk
      have hk2 := List.mem_range.1 h1
      have := hall k hk2
      unfold lst at this
      rw [Bool.and_eq_true] at h2
      have hkl : k < listed.size := by omega
      simp only [Array.getD_eq_getD_getElem?, Array.getElem?_eq_getElem hkl, Option.getD_some] at this h2
      rw [this] at h2
      cases h2.1
    exact ⟨he, fin listed hz he h⟩
  | succ fuel ih =>
    intro listed ι a w hz hc hf h
    refine ⟨fun he => fin listed hz he h, fun i hi => ?_⟩
    unfold Region.ready at hi
    obtain ⟨h1, h2⟩ := List.mem_filter.1 hi
    have hlt := List.mem_range.1 h1
    have hii : ops[i]? = some ops[i] := Array.getElem?_eq_getElem hlt
    rw [Bool.and_eq_true, hii] at h2
    obtain ⟨h2, h3⟩ := h2
    have hli : lst listed i = false := by
      unfold lst
      have hkl : i < listed.size := by omega
      simp only [Array.getD_eq_getD_getElem?, Array.getElem?_eq_getElem hkl, Option.getD_some] at h2 ⊢
      cases hq : listed[i]
      · rfl
      · rw [hq] at h2; cases h2
    simp only [Option.map_some, Option.getD_some] at h3
    rw [Array.all_eq_true_iff_forall_mem] at h3
    have hp : ∀ k ∈ preds ops[i], lst listed k = true := fun k hk => by
      obtain ⟨e, he, rfl⟩ := List.mem_map.1 hk
      obtain ⟨he1, he2⟩ := List.mem_filter.1 he
      have := h3 e (by simpa using he1)
      rw [he2] at this
      simpa [lst] using this
    have hnew : ∀ k, lst (listed.setIfInBounds i true) k = (decide (k = i) || lst listed k) := fun k => by
      unfold lst
      simp only [Array.getD_eq_getD_getElem?, Array.getElem?_setIfInBounds]
      by_cases hk : i = k
      · subst hk
        simp [hz, hlt]
      · rw [if_neg hk, decide_eq_false (fun e => hk e.symm), Bool.false_or]
    refine opX_ok hT h hii (K := fun s' => s' = stL ops (c 0) up y fun k => decide (k = i) || lst listed k) (fun s' ι' a' w' h' e => ?_) (draw_op hr hc hii hli hp)
    subst e
    refine ih (listed.setIfInBounds i true) (ι := ι') (by simpa using hz) (fun k o ho hk m hm => ?_) ?_ ?_
    · rw [hnew] at hk ⊢
      rw [Bool.or_eq_true] at hk ⊢
      rcases hk with hk | hk
      · have := of_decide_eq_true hk
        subst this
        rw [hii] at ho
        cases ho
        exact .inr (hp m hm)
      · exact .inr (hc k o ho hk m hm)
    · unfold left_ at hf ⊢
      obtain ⟨r, hrg, hrl⟩ := range_split ops.size i hlt
      rw [hrg, List.filter_append, List.filter_cons] at hf ⊢
      rw [hli] at hf
      rw [hnew i]
      simp only [decide_true, Bool.true_or, Bool.not_true, Bool.not_false, Bool.false_eq_true, if_false, if_true, List.length_append, List.length_cons] at hf ⊢
      rw [List.filter_congr (l := List.range i) (q := fun k => !lst listed k) (fun k hk => by rw [hnew, decide_eq_false (Nat.ne_of_lt (List.mem_range.1 hk)), Bool.false_or]), List.filter_congr (l := r) (q := fun k => !lst listed k) (fun k hk => by rw [hnew, decide_eq_false (Nat.ne_of_gt (hrl k hk).1), Bool.false_or])]
      omega
    · have : (lst (listed.setIfInBounds i true)) = fun k => decide (k = i) || lst listed k := funext hnew
      rw [this]
      exact h'

/-- a region that draws -/
theorem draw_ok {ro : Option Nat} {n : Nat} (hT : Tys.ok P tt) (hM : P.follows .mixedOrders = true) {Q : Exit → Act → World → Prop} {K : S → Prop} {s : S} {ι : Nat → Value} {a : Act} {w : World} (id : Nat) (h : Rel Hy X B St w0 Dp s ι a w) (hs : Sim Hy X B St w0 Dp K (Q .normal))
    (hst : stat ops.toList = true) (hk : runD P Hy tt cls ops.toList ops.toList 0 s [] K) : (Code.region id ops true).wpIn (FW ro) n P Q a w := by
  obtain ⟨c, up, y, Rf, Wf, rfl, hK, hr⟩ := run_get hst hk
  refine wpIn_region_any hM ?_
  have hl : ∀ k, lst (Array.replicate ops.size false) k = false := fun k => by
    unfold lst
    simp only [Array.getD_eq_getD_getElem?, Array.getElem?_replicate]
    split <;> rfl
  have hf : (List.range ops.size).filter (lst (Array.replicate ops.size false)) = [] := List.filter_eq_nil_iff.2 (fun k _ => by rw [hl]; simp)
  refine draw_any hT hr hK hs ops.size _ (ι := ι) (by simp) (fun i o _ hi => by rw [hl] at hi; cases hi) ?_ ?_
  · unfold left_
    have := List.length_filter_le (fun k => !lst (Array.replicate ops.size false) k) (List.range ops.size)
    rwa [List.length_range] at this
  · unfold stL
    rw [hf]
    exact h.drew
end
end Go.Proofs.Ytpbfkpdfodmcaaa
