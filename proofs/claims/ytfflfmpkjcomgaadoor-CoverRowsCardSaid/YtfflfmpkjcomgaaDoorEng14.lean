/- The engine, 14: regions that draw. -/
import Derived.Test.YtfflfmpkjcomgaaDoorEng13
namespace Go.Proofs.YtfflfmpkjcomgaaDoor
open Go.RowKit

theorem range_split (N i : Nat) (h : i < N) : ∃ r, List.range N = List.range i ++ i :: r ∧ ∀ k ∈ r, i < k ∧ k < N := by
  refine ⟨(List.range (N - i - 1)).map (i + 1 + ·), ?_, fun k hk => ?_⟩
  · conv => lhs; rw [show N = i + 1 + (N - i - 1) by omega, List.range_add, List.range_succ]
    simp
  · obtain ⟨j, hj, rfl⟩ := List.mem_map.1 hk
    have := List.mem_range.1 hj
    omega

section
variable {P : Program} {tt : Tys} {Hy : World → Prop} {X : World → (Nat → Prop) → (Nat → O) → (Nat → Value) → Prop} {cls : Nat → Nat} {B : Nat} {St : Nat → Prop} {Dp : List Deferred → Prop} {w0 : World}

theorem Rel.drew {s : S} {ι : Nat → Value} {a : Act} {w : World} (h : Rel Hy X B St w0 Dp s ι a w) : Rel Hy X B St w0 Dp s ι a { w with drawn := w.drawn + 1 } :=
  h.keep (w' := w.drew) ((Below.refl w.heap.size w).drew) none .junk undef (fun h => absurd rfl h)

theorem opX_ok {ro : Option Nat} {n : Nat} (hT : Tys.ok P tt) {s : S} {ι : Nat → Value} {a : Act} {w : World} (h : Rel Hy X B St w0 Dp s ι a w) {Q : Exit → Act → World → Prop} {ops : Array Oper} {i : Nat} {o : Oper} (ho : ops[i]? = some o) {R W : List Nat} {K : S → Prop} {K' : Act → World → Prop} (hs : Sim Hy X B St w0 Dp K K')
    (hk : opK P Hy tt cls ops.toList o s K ∨ (∃ c, opK P Hy tt c ops.toList o s K) ∨ opD P Hy ops.toList o s R W K) : wpOpIn (FW ro) n P ops Q i K' a w := hk.elim (fun hk => opK_ok hT h ho hs hk) (fun hk => hk.elim (fun ⟨_, hk⟩ => opK_ok hT h ho hs hk) (fun hk => opM_ok h ho hs (opD_M hk)))
/-- all that is known of a run in the order of the text, from here to there -/
structure Run (P : Program) (Hy : World → Prop) (tt : Tys) (cls : Nat → Nat) (ops : Array Oper) (lo hi : Nat) (c : Nat → S) (up : Nat → List (Nat × O)) (y : Nat → A) (Rf Wf : Nat → List Nat) : Prop where
  nxt : ∀ j o, lo ≤ j → j < hi → ops[j]? = some o → c (j + 1) = upd (c j) (up j) o.dst (y j)
  wr : ∀ j o, lo ≤ j → j < hi → ops[j]? = some o → ∀ p ∈ up j, p.1 ∈ Wf j
  ok : ∀ j o, lo ≤ j → j < hi → ops[j]? = some o → ∀ s2 : S, AgrX ops.toList (Rf j) (Wf j) o (c j) s2 → Turn P Hy tt cls ops.toList o (Rf j) (Wf j) (up j) (y j) s2
  dis : ∀ j o k x, lo ≤ k → k < j → j < hi → ops[j]? = some o → ops[k]? = some x → Bef ops.toList k j ∨ (dis (Wf k) (Rf j ++ Wf j) = true ∧ dis (Wf j) (Rf k ++ Wf k) = true)
  lt : ∀ i o, ops[i]? = some o → ∀ k ∈ preds o, k < i
  ap : ∀ j o k x, ops[j]? = some o → ops[k]? = some x → k < j → Bef ops.toList k j ∨ x.apart ops o = true
  lh : lo ≤ hi
  hz : hi ≤ ops.size
  edge : hi = ops.size ∨ barr ops.toList hi = true

variable {ops : Array Oper} {lo hi : Nat} {c : Nat → S} {up : Nat → List (Nat × O)} {y : Nat → A} {Rf Wf : Nat → List Nat}

theorem stat_get (hst : stat ops.toList = true) : ∀ i o, ops[i]? = some o → (∀ k ∈ preds o, k < i) ∧ ∀ k x, ops[k]? = some x → k < i → Bef ops.toList k i ∨ x.apart ops o = true := fun i o ho => by
  have l : ∀ {j : Nat} {o : Oper}, ops[j]? = some o → ops.toList[j]? = some o := fun h => by simpa using h
  have hi := (List.getElem?_eq_some_iff.1 (l ho)).1
  have := List.all_eq_true.1 hst i (List.mem_range.2 hi)
  rw [l ho] at this
  dsimp only at this
  rw [Bool.and_eq_true] at this
  refine ⟨fun k hk => of_decide_eq_true (List.all_eq_true.1 this.1 k hk), fun k x hx hk => ?_⟩
  have h4 := List.all_eq_true.1 this.2 k (List.mem_range.2 hk)
  rw [l hx] at h4
  dsimp only at h4
  rw [Bool.or_eq_true] at h4
  rcases h4 with h4 | h4
  · exact .inl (bfs_ok h4)
  · right
    simpa using h4
theorem bef_trans {ops : List Oper} {k m i : Nat} (h : Bef ops m i) (hk : Bef ops k m) : Bef ops k i := by
  induction h with
  | one h hm => exact .step h hm hk
  | step h hm _ ih => exact .step h hm ih
theorem barr_get {ops : List Oper} {i : Nat} (h : barr ops i = true) : (∀ j, j < i → Bef ops j i) ∧ ∀ k, k < ops.length → i < k → Bef ops i k := by
  unfold barr at h
  rw [Bool.and_eq_true] at h
  refine ⟨fun j hj => bfs_ok (List.all_eq_true.1 h.1 j (List.mem_range.2 hj)), fun k hk hik => ?_⟩
  have := List.all_eq_true.1 h.2 k (List.mem_range.2 hk)
  rw [Bool.or_eq_true, decide_eq_true_eq] at this
  exact bfs_ok (this.resolve_left (by omega))

/-- one operation's turn -/
def U (ops : Array Oper) (up : Nat → List (Nat × O)) (y : Nat → A) (s : S) (k : Nat) : S := upd s (up k) ((ops[k]?).bind (·.dst)) (y k)
/-- the state when these have been done -/
def stL (ops : Array Oper) (c0 : S) (up : Nat → List (Nat × O)) (y : Nat → A) (L : Nat → Bool) : S := ((List.range ops.size).filter L).foldl (U ops up y) c0

theorem fold_t (t : Nat) : ∀ (l : List Nat) (s s2 : S), s.t t = s2.t t → (l.foldl (U ops up y) s).t t = ((l.filter fun k => decide ((ops[k]?).bind (·.dst) = some t)).foldl (U ops up y) s2).t t
  | [], s, s2, h => h
  | k :: l, s, s2, h => by
    rw [List.foldl_cons, List.filter_cons]
    by_cases hd : (ops[k]?).bind (·.dst) = some t
    · rw [if_pos (by simpa using hd), List.foldl_cons]
      exact fold_t t l _ _ (by unfold U; rw [upd_t, upd_t, if_pos hd, if_pos hd])
    · rw [if_neg (by simpa using hd)]
      exact fold_t t l _ _ (by unfold U; rw [upd_t, if_neg hd]; exact h)
theorem fold_o (id : Nat) : ∀ (l : List Nat) (s s2 : S), s.o id = s2.o id → (l.foldl (U ops up y) s).o id = ((l.filter fun k => decide (id ∈ (up k).map (·.1))).foldl (U ops up y) s2).o id
  | [], s, s2, h => h
  | k :: l, s, s2, h => by
    rw [List.foldl_cons, List.filter_cons]
    by_cases hd : id ∈ (up k).map (·.1)
    · rw [if_pos (by simpa using hd), List.foldl_cons]
      exact fold_o id l _ _ (by unfold U; rw [upd_o, upd_o]; exact ob_o_same _ id _ _ h)
    · rw [if_neg (by simpa using hd)]
      exact fold_o id l _ _ (by unfold U; rw [upd_o, ob_o _ id _ hd]; exact h)
theorem fold_n : ∀ (l : List Nat) (s : S), (l.foldl (U ops up y) s).n = s.n
  | [], _ => rfl
  | k :: l, s => by rw [List.foldl_cons, fold_n l]; exact upd_n _ _ _ _

theorem dis_no {l m : List Nat} (h : dis l m = true) {x : Nat} (hx : x ∈ l) : x ∉ m := by
  have := List.all_eq_true.1 h x hx
  simpa using this

def Clo (ops : Array Oper) (L : Nat → Bool) : Prop := ∀ i o, ops[i]? = some o → L i = true → ∀ k ∈ preds o, L k = true
theorem Bef.clo {L : Nat → Bool} (hL : Clo ops L) {k i : Nat} (h : Bef ops.toList k i) : (∀ o, ops[i]? = some o → ∀ m ∈ preds o, L m = true) → L k = true := by
  induction h with
  | one h hk => exact fun hi => hi _ (by simpa using h) _ hk
  | @step m i o h hm hk ih =>
    intro hi
    have hmL : L m = true := hi o (by simpa using h) m hm
    exact ih (fun o' ho' => hL m o' ho' hmL)
theorem Bef.lt {k i : Nat} (hlt : ∀ i o, ops[i]? = some o → ∀ k ∈ preds o, k < i) (h : Bef ops.toList k i) : k < i := by
  induction h with
  | one h hk => exact hlt _ _ (by simpa using h) _ hk
  | step h hm hk ih => exact Nat.lt_trans ih (hlt _ _ (by simpa using h) _ hm)

/-- those that are listed, from here on -/
def Lw (lo : Nat) (L : Nat → Bool) (k : Nat) : Bool := decide (lo ≤ k) && L k
theorem Lw_eq (lo : Nat) (L : Nat → Bool) (k : Nat) : Lw lo L k = (decide (lo ≤ k) && L k) := rfl
theorem c_fold (hr : Run P Hy tt cls ops lo hi c up y Rf Wf) : ∀ d, lo + d ≤ hi → c (lo + d) = stL ops (c lo) up y (Lw lo fun k => decide (k < lo + d))
  | 0, _ => by
    unfold stL
    rw [List.filter_eq_nil_iff.2 (fun k _ => by
      simp only [Lw_eq]
      rw [Bool.and_eq_true, decide_eq_true_eq, decide_eq_true_eq]
      omega)]
    rfl
  | d + 1, h => by
    have ih := c_fold hr d (by omega)
    have hz := hr.hz
    have hlt : lo + d < ops.size := by omega
    have ho : ops[lo + d]? = some ops[lo + d] := Array.getElem?_eq_getElem hlt
    rw [← Nat.add_assoc, hr.nxt (lo + d) _ (by omega) (by omega) ho, ih]
    obtain ⟨r, hrg, hrl⟩ := range_split ops.size (lo + d) hlt
    unfold stL
    rw [hrg, List.filter_append, List.filter_append, List.filter_cons, List.filter_cons, if_neg (by simp [Lw]), if_pos (by simp [Lw])]
    have e1 : ∀ (q q' : Nat → Bool) (l : List Nat), (∀ k ∈ l, q k = q' k) → l.filter q = l.filter q' := fun q q' l h => List.filter_congr h
    have e2 : r.filter (Lw lo fun k => decide (k < lo + d)) = [] := List.filter_eq_nil_iff.2 (fun k hk => by
      have := (hrl k hk).1
      simp [Lw]
      omega)
    have e3 : r.filter (Lw lo fun k => decide (k < lo + d + 1)) = [] := List.filter_eq_nil_iff.2 (fun k hk => by
      have := (hrl k hk).1
      simp [Lw]
      omega)
    rw [e2, e3, e1 (Lw lo fun k => decide (k < lo + d)) (Lw lo fun k => decide (k < lo + d + 1)) (List.range (lo + d)) (fun k hk => by
      have := List.mem_range.1 hk
      simp only [Lw_eq]
      rw [decide_eq_true (show k < lo + d by omega), decide_eq_true (show k < lo + d + 1 by omega)]), List.append_nil, List.foldl_append]
    show upd _ _ _ _ = upd _ (up (lo + d)) ((ops[lo + d]?).bind (·.dst)) (y (lo + d))
    rw [ho]
    rfl
theorem c_st (hr : Run P Hy tt cls ops lo hi c up y Rf Wf) (i : Nat) (h1 : lo ≤ i) (h2 : i ≤ hi) : c i = stL ops (c lo) up y (Lw lo fun k => decide (k < i)) := by
  have := c_fold hr (i - lo) (by omega)
  rw [show lo + (i - lo) = i by omega] at this
  exact this

theorem st_same (L M : Nat → Bool) (q : Nat → Bool) (h : ∀ k, k < ops.size → q k = true → L k = M k) : ((List.range ops.size).filter L).filter q = ((List.range ops.size).filter M).filter q := by
  rw [List.filter_filter, List.filter_filter]
  refine List.filter_congr (fun k hk => ?_)
  cases hq : q k
  · rfl
  · rw [h k (List.mem_range.1 hk) hq]

/-- the next operation, in whatever order -/
theorem draw_op {hi0 : Nat} (hr : Run P Hy tt cls ops lo hi0 c up y Rf Wf) {L : Nat → Bool} (hL : Clo ops L) (hhi : ∀ k, hi0 ≤ k → L k = false) {i : Nat} {o : Oper} (hi1 : lo ≤ i) (hi2 : i < hi0) (ho : ops[i]? = some o) (hi : L i = false) (hp : ∀ k ∈ preds o, L k = true) :
    opK P Hy tt cls ops.toList o (stL ops (c lo) up y (Lw lo L)) (fun s' => s' = stL ops (c lo) up y (Lw lo fun k => decide (k = i) || L k)) ∨ (∃ c', opK P Hy tt c' ops.toList o (stL ops (c lo) up y (Lw lo L)) (fun s' => s' = stL ops (c lo) up y (Lw lo fun k => decide (k = i) || L k))) ∨ opD P Hy ops.toList o (stL ops (c lo) up y (Lw lo L)) (Rf i) (Wf i) (fun s' => s' = stL ops (c lo) up y (Lw lo fun k => decide (k = i) || L k)) := by
  have hlt : i < ops.size := (Array.getElem?_eq_some_iff.1 ho).1
  have hpo : ∀ o', ops[i]? = some o' → ∀ m ∈ preds o', L m = true := fun o' ho' => by
    rw [ho] at ho'
    cases ho'
    exact hp
  have yes : ∀ k, Bef ops.toList k i → L k = true := fun k h => h.clo hL hpo
  have no : ∀ k, Bef ops.toList i k → L k = false := fun k h => by
    cases hk : L k
    · rfl
    · have : L i = true := by
        refine h.clo hL (fun o' ho' => hL k o' ho' hk)
      rw [hi] at this
      cases this
  have key : ∀ k, k < ops.size → (lo ≤ k → k ≠ i → Bef ops.toList k i ∨ Bef ops.toList i k) → Lw lo L k = Lw lo (fun k => decide (k < i)) k := fun k hk h => by
    simp only [Lw_eq]
    by_cases hlk : lo ≤ k
    · rw [decide_eq_true hlk, Bool.true_and, Bool.true_and]
      by_cases hki : k = i
      · rw [hki, hi, decide_eq_false (Nat.lt_irrefl i)]
      · rcases h hlk hki with h | h
        · rw [yes k h, decide_eq_true (h.lt hr.lt)]
        · rw [no k h, decide_eq_false (Nat.lt_asymm (h.lt hr.lt))]
    · rw [decide_eq_false hlk, Bool.false_and, Bool.false_and]
  have kap : ∀ k, k < ops.size → ∀ t, (ops[k]?).bind (·.dst) = some t → t ∈ o.looksAt ops.toList.toArray → Lw lo L k = Lw lo (fun k => decide (k < i)) k := fun k hk t hq ht => by
    have hkk : ops[k]? = some ops[k] := Array.getElem?_eq_getElem hk
    rw [hkk] at hq
    refine key k hk fun _ hki => ?_
    rcases Nat.lt_or_gt_of_ne hki with h | h
    · rcases hr.ap i o k _ ho hkk h with h | h
      · exact .inl h
      · exact absurd ht ((Oper.apart_spec h).1 t hq)
    · rcases hr.ap k _ i o hkk ho h with h | h
      · exact .inr h
      · exact absurd ht ((Oper.apart_spec h).2.2 t hq)
  refine hr.ok i o hi1 hi2 ho _ ⟨?_, fun t ht => ?_, fun id hid => ?_⟩ (fun s' => s' = stL ops (c lo) up y (Lw lo fun k => decide (k = i) || L k)) ?_
  · rw [c_st hr i hi1 (by omega)]
    unfold stL
    rw [fold_n, fold_n]
  · rw [c_st hr i hi1 (by omega)]
    unfold stL
    rw [fold_t t _ _ (c lo) rfl, fold_t t ((List.range ops.size).filter (Lw lo fun k => decide (k < i))) _ (c lo) rfl]
    rw [st_same (Lw lo L) (Lw lo fun k => decide (k < i)) _ (fun k hk hq => kap k hk t (of_decide_eq_true hq) ht)]
  · rw [c_st hr i hi1 (by omega)]
    unfold stL
    rw [fold_o id _ _ (c lo) rfl, fold_o id ((List.range ops.size).filter (Lw lo fun k => decide (k < i))) _ (c lo) rfl]
    rw [st_same (Lw lo L) (Lw lo fun k => decide (k < i)) _ (fun k hk hq => ?_)]
    have hq : id ∈ (up k).map (·.1) := of_decide_eq_true hq
    have hkk : ops[k]? = some ops[k] := Array.getElem?_eq_getElem hk
    have hid2 : id ∈ Rf i ++ Wf i := List.mem_append.2 hid
    by_cases hkh : k < hi0
    · refine key k hk fun hlk hki => ?_
      have hw : id ∈ Wf k := by
        obtain ⟨p, hp2, rfl⟩ := List.mem_map.1 hq
        exact hr.wr k _ hlk hkh hkk p hp2
      rcases Nat.lt_or_gt_of_ne hki with h | h
      · rcases hr.dis i o k _ hlk h hi2 ho hkk with h | ⟨h, _⟩
        · exact .inl h
        · exact absurd hid2 (dis_no h hw)
      · rcases hr.dis k _ i o hi1 h hkh hkk ho with h | ⟨_, h⟩
        · exact .inr h
        · exact absurd hid2 (dis_no h hw)
    · simp only [Lw_eq]
      rw [hhi k (by omega), decide_eq_false (show ¬ k < i by omega)]
  · obtain ⟨r, hrg, hrl⟩ := range_split ops.size i hlt
    unfold stL
    have l0 : Lw lo L i = false := by simp only [Lw_eq]; rw [hi, Bool.and_false]
    have l1 : Lw lo (fun k => decide (k = i) || L k) i = true := by simp [Lw_eq, hi1]
    have ln : ∀ k, k ≠ i → Lw lo (fun k => decide (k = i) || L k) k = Lw lo L k := fun k hk => by simp only [Lw_eq]; rw [decide_eq_false hk, Bool.false_or]
    rw [hrg, List.filter_append, List.filter_append, List.filter_cons, List.filter_cons, l0, l1]
    simp only [if_true, Bool.false_eq_true, if_false]
    have e1 : (List.range i).filter (Lw lo fun k => decide (k = i) || L k) = (List.range i).filter (Lw lo L) := List.filter_congr (fun k hk => ln k (Nat.ne_of_lt (List.mem_range.1 hk)))
    have e2 : r.filter (Lw lo fun k => decide (k = i) || L k) = r.filter (Lw lo L) := List.filter_congr (fun k hk => ln k (Nat.ne_of_gt (hrl k hk).1))
    rw [e1, e2, List.foldl_append, List.foldl_append, List.foldl_cons]
    generalize ((List.range i).filter (Lw lo L)).foldl (U ops up y) (c lo) = s1
    have com : ∀ (l : List Nat), (∀ k ∈ l, i < k ∧ k < ops.size ∧ L k = true) → ∀ s1 : S, upd (l.foldl (U ops up y) s1) (up i) o.dst (y i) = l.foldl (U ops up y) (U ops up y s1 i) := by
      intro l
      induction l with
      | nil =>
        intro _ s1
        show _ = upd s1 (up i) ((ops[i]?).bind (·.dst)) (y i)
        rw [ho]
        rfl
      | cons k l ih =>
        intro hl s1
        rw [List.foldl_cons, List.foldl_cons, ih (fun k hk => hl k (List.mem_cons_of_mem _ hk))]
        congr 1
        obtain ⟨h1, h2, h3⟩ := hl k List.mem_cons_self
        have hkk : ops[k]? = some ops[k] := Array.getElem?_eq_getElem h2
        have hkh : k < hi0 := Nat.lt_of_not_le fun e => by
          rw [hhi k e] at h3
          cases h3
        have nb : ¬ Bef ops.toList i k := fun h => by
          rw [no k h] at h3
          cases h3
        have hap := (hr.ap k _ i o hkk ho h1).resolve_left nb
        have hds := (hr.dis k _ i o hi1 h1 hkh hkk ho).resolve_left nb
        unfold U
        rw [ho, hkk]
        refine (upd_comm s1 (up i) (up k) o.dst ops[k].dst (y i) (y k) (fun t ht => (Oper.apart_spec hap).2.1 t ht) (fun id hid hid2 => ?_)).symm
        have w1 : id ∈ Wf i := by
          obtain ⟨p, hp2, rfl⟩ := List.mem_map.1 hid
          exact hr.wr i _ hi1 hi2 ho p hp2
        have w2 : id ∈ Wf k := by
          obtain ⟨p, hp2, rfl⟩ := List.mem_map.1 hid2
          exact hr.wr k _ (by omega) hkh hkk p hp2
        exact dis_no hds.1 w1 (List.mem_append_right _ w2)
    exact com (r.filter (Lw lo L)) (fun k hk => by
      obtain ⟨h1, h2⟩ := List.mem_filter.1 hk
      simp only [Lw_eq] at h2
      rw [Bool.and_eq_true] at h2
      exact ⟨(hrl k h1).1, (hrl k h1).2, h2.2⟩) s1

def lst (listed : Array Bool) (k : Nat) : Bool := listed.getD k false
def left_ (ops : Array Oper) (listed : Array Bool) : Nat := ((List.range ops.size).filter fun k => !lst listed k).length

theorem ready_iff {listed : Array Bool} (hz : listed.size = ops.size) {i : Nat} : i ∈ Region.ready .any ops listed ↔ i < ops.size ∧ lst listed i = false ∧ ∀ o, ops[i]? = some o → ∀ k ∈ preds o, lst listed k = true := by
  unfold Region.ready
  rw [List.mem_filter, List.mem_range]
  refine and_congr_right fun hlt => ?_
  have hii : ops[i]? = some ops[i] := Array.getElem?_eq_getElem hlt
  have hkl : i < listed.size := by omega
  rw [Bool.and_eq_true, hii]
  simp only [Option.map_some, Option.getD_some, Array.getD_eq_getD_getElem?, Array.getElem?_eq_getElem hkl]
  refine and_congr ?_ ?_
  · unfold lst
    simp only [Array.getD_eq_getD_getElem?, Array.getElem?_eq_getElem hkl, Option.getD_some]
    cases listed[i] <;> simp
  · rw [Array.all_eq_true_iff_forall_mem]
    constructor
    · rintro h3 o e k hk
      cases e
      obtain ⟨e, he, rfl⟩ := List.mem_map.1 hk
      obtain ⟨he1, he2⟩ := List.mem_filter.1 he
      have := h3 e (by simpa using he1)
      rw [he2] at this
      simpa [lst] using this
    · intro h e hem
      rw [Bool.or_eq_true]
      by_cases hb : Region.binds .any e = true
      · right
        have := h _ rfl e.on (List.mem_map.2 ⟨e, List.mem_filter.2 ⟨by simpa using hem, hb⟩, rfl⟩)
        simpa [lst] using this
      · left
        simpa using hb
theorem lst_set {listed : Array Bool} (hz : listed.size = ops.size) {i : Nat} (hlt : i < ops.size) (k : Nat) : lst (listed.setIfInBounds i true) k = (decide (k = i) || lst listed k) := by
  unfold lst
  simp only [Array.getD_eq_getD_getElem?, Array.getElem?_setIfInBounds]
  by_cases hk : i = k
  · subst hk
    simp [hz, hlt]
  · rw [if_neg hk, decide_eq_false (fun e => hk e.symm), Bool.false_or]
theorem left_set {listed : Array Bool} (hz : listed.size = ops.size) {i fuel : Nat} (hlt : i < ops.size) (hli : lst listed i = false) (hf : left_ ops listed ≤ fuel + 1) : left_ ops (listed.setIfInBounds i true) ≤ fuel := by
  unfold left_ at hf ⊢
  obtain ⟨r, hrg, hrl⟩ := range_split ops.size i hlt
  rw [hrg, List.filter_append, List.filter_cons] at hf ⊢
  rw [hli] at hf
  rw [lst_set hz hlt i]
  simp only [decide_true, Bool.true_or, Bool.not_true, Bool.not_false, Bool.false_eq_true, if_false, if_true, List.length_append, List.length_cons] at hf ⊢
  rw [List.filter_congr (l := List.range i) (q := fun k => !lst listed k) (fun k hk => by rw [lst_set hz hlt, decide_eq_false (Nat.ne_of_lt (List.mem_range.1 hk)), Bool.false_or]), List.filter_congr (l := r) (q := fun k => !lst listed k) (fun k hk => by rw [lst_set hz hlt, decide_eq_false (Nat.ne_of_gt (hrl k hk).1), Bool.false_or])]
  omega
theorem left_pos {listed : Array Bool} {k : Nat} (hk : k < ops.size) (hl : lst listed k = false) : 0 < left_ ops listed := List.length_pos_of_mem (List.mem_filter.2 ⟨List.mem_range.2 hk, by rw [hl]; rfl⟩)
theorem clo_set {listed : Array Bool} (hz : listed.size = ops.size) (hc : Clo ops (lst listed)) {i : Nat} {o : Oper} (ho : ops[i]? = some o) (hp : ∀ k ∈ preds o, lst listed k = true) : Clo ops (lst (listed.setIfInBounds i true)) := fun k x hx hk m hm => by
  have hlt := (Array.getElem?_eq_some_iff.1 ho).1
  rw [lst_set hz hlt] at hk ⊢
  rw [Bool.or_eq_true] at hk ⊢
  rcases hk with hk | hk
  · have := of_decide_eq_true hk
    subst this
    rw [ho] at hx
    cases hx
    exact .inr (hp m hm)
  · exact .inr (hc k x hx hk m hm)
/-- a window of a region that draws: in whatever order, then on -/
theorem draw_win {ro : Option Nat} {n : Nat} (hT : Tys.ok P tt) (hr : Run P Hy tt cls ops lo hi c up y Rf Wf) {Q : Exit → Act → World → Prop}
    (hgo : ∀ (fuel : Nat) (listed : Array Bool) (ι : Nat → Value) (a : Act) (w : World), listed.size = ops.size → (∀ k, lst listed k = decide (k < hi)) → left_ ops listed ≤ fuel → Rel Hy X B St w0 Dp (c hi) ι a w → wpAnyIn (FW ro) n P .any ops Q fuel listed a w) :
    ∀ (fuel : Nat) (listed : Array Bool) {ι : Nat → Value} {a : Act} {w : World}, listed.size = ops.size → Clo ops (lst listed) → (∀ k, k < lo → lst listed k = true) → (∀ k, hi ≤ k → lst listed k = false) → left_ ops listed ≤ fuel → Rel Hy X B St w0 Dp (stL ops (c lo) up y (Lw lo (lst listed))) ι a w → wpAnyIn (FW ro) n P .any ops Q fuel listed a w := by
  have fin : ∀ (fuel : Nat) (listed : Array Bool) {ι : Nat → Value} {a : Act} {w : World}, listed.size = ops.size → (∀ k, hi ≤ k → lst listed k = false) → (∀ k, k < hi → lst listed k = true) → left_ ops listed ≤ fuel → Rel Hy X B St w0 Dp (stL ops (c lo) up y (Lw lo (lst listed))) ι a w → wpAnyIn (FW ro) n P .any ops Q fuel listed a w := fun fuel listed ι a w hz h1 h2 hf h => by
    have e : ∀ k, lst listed k = decide (k < hi) := fun k => by
      by_cases hk : k < hi
      · rw [h2 k hk, decide_eq_true hk]
      · rw [h1 k (by omega), decide_eq_false hk]
    refine hgo fuel listed ι a w hz e hf ?_
    have : stL ops (c lo) up y (Lw lo (lst listed)) = c hi := by
      rw [c_st hr hi hr.lh (Nat.le_refl _)]
      unfold stL
      refine congrArg (fun l => List.foldl (U ops up y) (c lo) l) (List.filter_congr fun k _ => ?_)
      simp only [Lw_eq]
      rw [e]
    rw [← this]
    exact h
  intro fuel
  induction fuel with
  | zero =>
    intro listed ι a w hz hc hlo hhi hf h
    refine fin 0 listed hz hhi (fun k hk => ?_) hf h
    cases hl : lst listed k
    · have hz2 := hr.hz
      have := left_pos (ops := ops) (by omega : k < ops.size) hl
      omega
    · rfl
  | succ fuel ih =>
    intro listed ι a w hz hc hlo hhi hf h
    by_cases hall : ∀ k, k < hi → lst listed k = true
    · exact fin _ listed hz hhi hall hf h
    have hz2 := hr.hz
    have inwin : ∀ i ∈ Region.ready .any ops listed, i < hi := fun i hi' => by
      obtain ⟨r1, r2, r3⟩ := (ready_iff hz).1 hi'
      refine Nat.lt_of_not_le fun hge => hall fun k hk => ?_
      rcases hr.edge with he | he
      · omega
      · obtain ⟨b1, b2⟩ := barr_get he
        have : Bef ops.toList k i := by
          rcases Nat.lt_or_eq_of_le hge with hlt | rfl
          · exact bef_trans (b2 i (by simpa using r1) hlt) (b1 k hk)
          · exact b1 k hk
        exact this.clo hc r3
    refine ⟨fun he => ?_, fun i hi' => ?_⟩
    · exfalso
      apply hall
      intro k
      induction k using Nat.strongRecOn with
      | _ k ihk =>
        intro hk
        cases hl : lst listed k
        · exfalso
          have : k ∈ Region.ready .any ops listed := (ready_iff hz).2 ⟨by omega, hl, fun o ho m hm => by
            have hlt := hr.lt k _ ho _ hm
            exact ihk m hlt (by omega)⟩
          rw [he] at this
          cases this
        · rfl
    · have hwin := inwin i hi'
      obtain ⟨r1, r2, r3⟩ := (ready_iff hz).1 hi'
      have hii : ops[i]? = some ops[i] := Array.getElem?_eq_getElem r1
      have hil : lo ≤ i := Nat.le_of_not_lt fun e => by
        rw [hlo i e] at r2
        cases r2
      refine opX_ok hT h hii (K := fun s' => s' = stL ops (c lo) up y (Lw lo fun k => decide (k = i) || lst listed k)) (fun s' ι' a' w' h' e => ?_) (draw_op hr hc hhi hil hwin hii r2 (r3 _ hii))
      subst e
      refine ih (listed.setIfInBounds i true) (ι := ι') (by simpa using hz) (clo_set hz hc hii (r3 _ hii)) (fun k hk => ?_) (fun k hk => ?_) (left_set hz r1 r2 hf) ?_
      · rw [lst_set hz r1, hlo k hk, Bool.or_true]
      · rw [lst_set hz r1, hhi k hk, decide_eq_false (by omega)]
        rfl
      · have : (lst (listed.setIfInBounds i true)) = fun k => decide (k = i) || lst listed k := funext (lst_set hz r1)
        rw [this]
        exact h'
/-- a region that draws, from here on -/
theorem draw_go {ro : Option Nat} {n : Nat} {E : Env} (hT : Tys.ok P tt) {Q : Exit → Act → World → Prop} (hY : YH P Hy X B St w0 Dp ro n E) (hP : SimP Hy X B St w0 Dp E Q) {K : S → Prop} (hs : Sim Hy X B St w0 Dp K (Q .normal)) (hst : stat ops.toList = true) :
    ∀ (m i0 : Nat) (s : S) (fps : List (List Nat × List Nat)), m = ops.size - i0 → i0 ≤ ops.size → fps.length = i0 → runD P Hy tt cls E ops.toList (ops.toList.drop i0) i0 s fps K →
    ∀ (fuel : Nat) (listed : Array Bool) (ι : Nat → Value) (a : Act) (w : World), listed.size = ops.size → (∀ k, lst listed k = decide (k < i0)) → left_ ops listed ≤ fuel → Rel Hy X B St w0 Dp s ι a w → wpAnyIn (FW ro) n P .any ops Q fuel listed a w := by
  intro m
  induction m using Nat.strongRecOn with
  | _ m ih =>
    intro i0 s fps hm hle hfps hk fuel listed ι a w hz hls hf h
    have hsg := stat_get hst
    have l : ∀ {j : Nat} {o : Oper}, ops[j]? = some o → ops.toList[j]? = some o := fun h => by simpa using h
    obtain ⟨hi, c, up, y, Rf, Wf, g0, g1, rfl, g2, g3⟩ := runD_get ops.toList _ i0 s fps K (by simpa using hle) rfl hfps hk
    have hz2 : hi ≤ ops.size := by simpa using g1
    have hr : Run P Hy tt cls ops i0 hi c up y Rf Wf := by
      refine ⟨fun j o h1 h2 ho => (g3 j o h1 h2 (l ho)).1, fun j o h1 h2 ho => (g3 j o h1 h2 (l ho)).2.1, fun j o h1 h2 ho => (g3 j o h1 h2 (l ho)).2.2.1, fun j o k x h1 h2 h3 ho hx => ?_, fun i o ho => (hsg i o ho).1, fun j o k x ho hx hk => (hsg j o ho).2 k x hx hk, g0, hz2, ?_⟩
      · rcases (g3 j o (by omega) h3 (l ho)).2.2.2 k h2 with h | ⟨_, h⟩
        · exact .inl h
        · exact .inr (h h1 x (l hx))
      · rcases g2 with ⟨e, _⟩ | ⟨o, fps', e1, e2, _⟩
        · exact .inl (by simpa using e)
        · exact .inr e2
    have clo : Clo ops (lst listed) := fun i o ho hl k hk => by
      rw [hls] at hl ⊢
      have := (hsg i o ho).1 k hk
      have := of_decide_eq_true hl
      exact decide_eq_true (by omega)
    refine draw_win (Hy := Hy) (X := X) (B := B) (St := St) (Dp := Dp) (w0 := w0) (ι := ι) hT hr (fun fuel listed ι a w hz hls hf h => ?_) fuel listed hz clo (fun k hk => by rw [hls, decide_eq_true hk]) (fun k hk => by rw [hls, decide_eq_false (by omega)]) hf ?_
    · rcases g2 with ⟨e, hK⟩ | ⟨o, fps', ho, hb, hfl, hstep⟩
      · have he : hi = ops.size := by simpa using e
        have hre : Region.ready .any ops listed = [] := by
          rw [List.eq_nil_iff_forall_not_mem]
          intro k hk
          obtain ⟨r1, r2, _⟩ := (ready_iff hz).1 hk
          rw [hls, decide_eq_true (by omega)] at r2
          cases r2
        cases fuel with
        | zero => exact ⟨hre, hs _ ι a w h hK⟩
        | succ fuel =>
          refine ⟨fun _ => hs _ ι a w h hK, fun i hi' => ?_⟩
          rw [hre] at hi'
          cases hi'
      · have ho2 : ops[hi]? = some o := by simpa using ho
        have hlt := (Array.getElem?_eq_some_iff.1 ho2).1
        obtain ⟨b1, b2⟩ := barr_get hb
        have hnl : lst listed hi = false := by rw [hls, decide_eq_false (Nat.lt_irrefl _)]
        have hrd : hi ∈ Region.ready .any ops listed := (ready_iff hz).2 ⟨hlt, hnl, fun o' ho' k hk => by
          rw [ho2] at ho'
          cases ho'
          rw [hls]
          exact decide_eq_true ((hsg hi o ho2).1 k hk)⟩
        have clo2 : Clo ops (lst listed) := fun i o ho hl k hk => by
          rw [hls] at hl ⊢
          have := (hsg i o ho).1 k hk
          have := of_decide_eq_true hl
          exact decide_eq_true (by omega)
        cases fuel with
        | zero =>
          have := left_pos hlt hnl
          omega
        | succ fuel =>
          refine ⟨fun e => (by rw [e] at hrd; cases hrd), fun i hi' => ?_⟩
          obtain ⟨r1, r2, r3⟩ := (ready_iff hz).1 hi'
          have hie : i = hi := by
            rcases Nat.lt_trichotomy i hi with e | e | e
            · rw [hls, decide_eq_true e] at r2
              cases r2
            · exact e
            · have := (b2 i (by simpa using r1) e).clo clo2 r3
              rw [hnl] at this
              cases this
          subst hie
          refine stepM_ok hT hY hP h ho2 (fun s' ι' a' w' h' hk' => ?_) hstep
          refine ih (ops.size - (i + 1)) (by omega) (i + 1) s' (fps' ++ [([], [])]) rfl (by omega) (by simp [hfl]) hk' fuel (listed.setIfInBounds i true) ι' a' w' (by simpa using hz) (fun k => ?_) (left_set hz r1 r2 hf) h'
          rw [lst_set hz r1, hls]
          by_cases hk : k < i + 1
          · rw [decide_eq_true hk]
            rcases Nat.lt_or_eq_of_le (Nat.lt_succ_iff.1 hk) with h | rfl
            · rw [decide_eq_true h, Bool.or_true]
            · rw [decide_eq_true rfl, Bool.true_or]
          · rw [decide_eq_false hk, decide_eq_false (by omega), decide_eq_false (by omega)]
            rfl
    · have : stL ops (c i0) up y (Lw i0 (lst listed)) = c i0 := by
        unfold stL
        rw [List.filter_eq_nil_iff.2 (fun k _ => by
          simp only [Lw_eq]
          rw [hls, Bool.and_eq_true, decide_eq_true_eq, decide_eq_true_eq]
          omega)]
        rfl
      rw [this]
      exact h

/-- a region that draws -/
theorem draw_ok {ro : Option Nat} {n : Nat} {E : Env} (hT : Tys.ok P tt) (hM : P.follows .mixedOrders = true) {Q : Exit → Act → World → Prop} (hY : YH P Hy X B St w0 Dp ro n E) (hP : SimP Hy X B St w0 Dp E Q) {K : S → Prop} {s : S} {ι : Nat → Value} {a : Act} {w : World} (id : Nat) (h : Rel Hy X B St w0 Dp s ι a w) (hs : Sim Hy X B St w0 Dp K (Q .normal))
    (hst : stat ops.toList = true) (hk : runD P Hy tt cls E ops.toList ops.toList 0 s [] K) : (Code.region id ops true).wpIn (FW ro) n P Q a w := by
  refine wpIn_region_any hM ?_
  have hl : ∀ k, lst (Array.replicate ops.size false) k = decide (k < 0) := fun k => by
    unfold lst
    simp only [Array.getD_eq_getD_getElem?, Array.getElem?_replicate]
    split <;> rfl
  refine draw_go hT hY hP hs hst _ 0 s [] rfl (Nat.zero_le _) rfl hk ops.size _ ι a _ (by simp) hl ?_ h.drew
  unfold left_
  have := List.length_filter_le (fun k => !lst (Array.replicate ops.size false) k) (List.range ops.size)
  rwa [List.length_range] at this
end
end Go.Proofs.YtfflfmpkjcomgaaDoor
