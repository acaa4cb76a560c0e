import Derived.Test.YtpbfkpdfodmcaaaE6
namespace Go.Proofs.Ytpbfkpdfodmcaaa
open Go.RowKit
set_option maxRecDepth 100000
set_option linter.unusedSimpArgs false
variable (Hy : World → Prop)
attribute [local irreducible] runM runD cwp seqQ blkQ lpQ retQ
def fitB (g : G) (begin : List Int) (state : List Bool) (seq : List (List Bool)) : Bool :=
  decide (state.length = begin.length) && ((List.range begin.length).all fun j => decide (begin.getD j 0 = 2) || (state.getD j false == decide (begin.getD j 0 = 1))) && seq.all fun l => decide ((l.length : Int) = g.ins)
theorem fitB_iff (g : G) (begin : List Int) (state : List Bool) (seq : List (List Bool)) : fitB g begin state seq = true ↔ FitU g begin state seq := by
  unfold fitB FitU
  rw [Bool.and_eq_true, Bool.and_eq_true, decide_eq_true_eq, List.all_eq_true, List.all_eq_true, and_assoc]
  refine and_congr_right fun hl => and_congr ⟨fun h j b x hb hx h2 => ?_, fun h j hj => ?_⟩ ⟨fun h l hl => by simpa using h l hl, fun h l hl => by simpa using h l hl⟩
  · have := h j (List.mem_range.2 (List.getElem?_eq_some_iff.1 hb).1)
    rw [List.getD_eq_getElem?_getD, List.getD_eq_getElem?_getD, hb, hx] at this
    simp only [Option.getD_some, Bool.or_eq_true, decide_eq_true_eq, beq_iff_eq] at this
    exact this.resolve_left h2
  · have hj := List.mem_range.1 hj
    obtain ⟨b, hb⟩ : ∃ x, begin[j]? = some x := ⟨_, List.getElem?_eq_getElem hj⟩
    obtain ⟨x, hx⟩ : ∃ x, state[j]? = some x := ⟨_, List.getElem?_eq_getElem (by omega)⟩
    rw [List.getD_eq_getElem?_getD, List.getD_eq_getElem?_getD, hb, hx]
    simp only [Option.getD_some, Bool.or_eq_true, decide_eq_true_eq, beq_iff_eq]
    by_cases h2 : b = 2
    · exact .inl h2
    · exact .inr (h j b x hb hx h2)
instance (g : G) (begin : List Int) (state : List Bool) (seq : List (List Bool)) : Decidable (FitU g begin state seq) := decidable_of_iff _ (fitB_iff g begin state seq)
def bC (l : List Bool) : List (List T) := l.map fun b => [.b b]
theorem bL_eq (l : List Bool) : bL l = .sl (bC l) := rfl
theorem bC_len (l : List Bool) : (bC l).length = l.length := by simp [bC]
theorem bC_get {l : List Bool} {j : Nat} {x : Bool} (h : l[j]? = some x) : (bC l)[j]? = some [.b x] := by simp [bC, h]
theorem bC_one (l : List Bool) : ∀ e ∈ bC l, e.length = 1 := fun e he => by
  obtain ⟨x, hx, rfl⟩ := List.mem_map.1 he
  rfl
def eithS : List Int → List Bool → List Bool
  | b :: bs, s :: ss => if b = 2 then s :: eithS bs ss else eithS bs ss
  | _, _ => []
theorem eithS_snoc : ∀ {bs : List Int} {ss : List Bool} {b : Int} {s : Bool}, bs.length = ss.length → eithS (bs ++ [b]) (ss ++ [s]) = eithS bs ss ++ if b = 2 then [s] else []
  | [], [], b, s, _ => by
    show (if b = 2 then [s] else []) = _
    rfl
  | b' :: bs, s' :: ss, b, s, h => by
    have ih := eithS_snoc (bs := bs) (ss := ss) (b := b) (s := s) (by simpa using h)
    show (if b' = 2 then s' :: eithS (bs ++ [b]) (ss ++ [s]) else eithS (bs ++ [b]) (ss ++ [s])) = (if b' = 2 then s' :: eithS bs ss else eithS bs ss) ++ _
    rw [ih]
    split <;> simp
  | [], _ :: _, _, _, h => by cases h
  | _ :: _, [], _, _, h => by cases h
theorem eithS_take {begin : List Int} {state : List Bool} {i : Nat} {b : Int} {s : Bool} (hb : begin[i]? = some b) (hs : state[i]? = some s) : eithS (begin.take (i + 1)) (state.take (i + 1)) = eithS (begin.take i) (state.take i) ++ if b = 2 then [s] else [] := by
  have h1 := (List.getElem?_eq_some_iff.1 hb).1
  have h2 := (List.getElem?_eq_some_iff.1 hs).1
  rw [List.take_add_one, List.take_add_one, hb, hs]
  exact eithS_snoc (by rw [List.length_take, List.length_take]; omega)
def nextV (g : G) (v : List Bool) : List Bool := g.next.map (litV v)
def runB (g : G) : List Bool → List (List Bool) → List Bool
  | _, [] => []
  | s, i :: q => i ++ (valsG g s i).drop (firstN g) ++ runB g (nextV g (valsG g s i)) q
def stB (g : G) : List Bool → List (List Bool) → List Bool
  | s, [] => s
  | s, i :: q => stB g (nextV g (valsG g s i)) q
theorem stB_snoc (g : G) : ∀ (q : List (List Bool)) (s i : List Bool), stB g s (q ++ [i]) = nextV g (valsG g (stB g s q) i)
  | [], _, _ => rfl
  | _ :: q, _, i => stB_snoc g q _ i
theorem runB_snoc (g : G) : ∀ (q : List (List Bool)) (s i : List Bool), runB g s (q ++ [i]) = runB g s q ++ (i ++ (valsG g (stB g s q) i).drop (firstN g))
  | [], s, i => by
    show i ++ (valsG g s i).drop (firstN g) ++ [] = [] ++ _
    rw [List.append_nil, List.nil_append]
    rfl
  | j :: q, s, i => by
    show j ++ (valsG g s j).drop (firstN g) ++ runB g (nextV g (valsG g s j)) (q ++ [i]) = j ++ (valsG g s j).drop (firstN g) ++ runB g (nextV g (valsG g s j)) q ++ _
    rw [runB_snoc g q]
    simp only [List.append_assoc]
    rfl
theorem stB_len (g : G) : ∀ (q : List (List Bool)) (s : List Bool), s.length = g.next.length → (stB g s q).length = g.next.length
  | [], _, h => h
  | _ :: q, _, _ => stB_len g q _ (by simp [nextV])
def valErr (g : G) (begin : List Int) (state : List Bool) (seq : List (List Bool)) : Int := if unCheck g begin seq.length ≠ 0 then unCheck g begin seq.length else if FitU g begin state seq then 0 else 11
def valL (g : G) (begin : List Int) (state : List Bool) (seq : List (List Bool)) : List Bool := true :: (eithS begin state ++ runB g state seq)
/-- a state: data, nothing, or an own row -/
def IsSt (oc : Nat → O) (x : A) (st : List Bool) : Prop := x = .t (bL st) ∨ (st = [] ∧ x = .nilS) ∨ ∃ m, x = .row 1095 m ∧ oc 1095 = ⟨m, .row 4 1 (bC st)⟩
theorem runB_len (g : G) (hb : ∀ (s i : List Bool), s.length = g.next.length → (i.length : Int) = g.ins → ((valsG g s i).drop (firstN g)).length = g.ands.length) : ∀ (q : List (List Bool)) (s : List Bool), s.length = g.next.length → (∀ l ∈ q, (l.length : Int) = g.ins) → ((runB g s q).length : Int) = q.length * (g.ins + g.ands.length)
  | [], _, _, _ => by simp [runB]
  | i :: q, s, hs, h => by
    have h1 := h i List.mem_cons_self
    have ih := runB_len g hb q (nextV g (valsG g s i)) (by simp [nextV]) (fun l hl => h l (List.mem_cons_of_mem _ hl))
    have h2 := hb s i hs h1
    show ((i ++ (valsG g s i).drop (firstN g) ++ runB g (nextV g (valsG g s i)) q).length : Int) = _
    rw [List.length_append, List.length_append, h2, List.length_cons, show ((q.length + 1 : Nat) : Int) = (q.length : Int) + 1 from rfl, Int.add_mul, Int.one_mul, ← ih]
    omega
theorem vals_drop (g : G) (s i : List Bool) (hs : s.length = g.next.length) (hi : (i.length : Int) = g.ins) : ((valsG g s i).drop (firstN g)).length = g.ands.length := by
  rw [List.length_drop, valsG, vals_len, List.length_cons, List.length_append]
  unfold firstN
  omega
theorem eithS_len : ∀ (b : List Int) (s : List Bool), (eithS b s).length ≤ b.length
  | [], _ => by simp [eithS]
  | _ :: _, [] => by simp [eithS]
  | b :: bs, s :: ss => by
    have ih := eithS_len bs ss
    show (if b = 2 then s :: eithS bs ss else eithS bs ss).length ≤ _
    split <;> simp only [List.length_cons] <;> omega
end Go.Proofs.Ytpbfkpdfodmcaaa
