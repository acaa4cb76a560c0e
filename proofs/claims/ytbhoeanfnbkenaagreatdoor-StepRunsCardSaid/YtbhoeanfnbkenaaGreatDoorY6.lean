import Derived.Test.YtbhoeanfnbkenaaGreatDoorY5
namespace Go.Proofs.YtbhoeanfnbkenaaGreatDoor
open Go.RowKit Go.WideMaps
set_option maxRecDepth 100000
set_option linter.unusedSimpArgs false
variable (Hy : World → Prop)
attribute [local irreducible] zU zY cwp z1 z6 lpQ z8 asQ bdQ bdY zab zac zad zaa
def zbr (c : Ci) (st ii : List Bool) : List Bool × Int := if (zaw c).1 = 0 then (if st.length = c.las.length ∧ ii.length = c.ins.length then (zat c st ii, 0) else ([], 11)) else ([], 1)
def zbk (c : Ci) (st ii : List Bool) : List Bool × (List Bool × Int) := if (zaw c).1 = 0 then (if st.length = c.las.length ∧ ii.length = c.ins.length then (zbK c (zat c st ii), zbB c (zat c st ii), 0) else ([], [], 11)) else ([], [], 1)
set_option maxHeartbeats 8000000 in
theorem zmN (c : Ci) (st ii : List Bool) (hr : CRoom c) (hgo : GOk c.gts) (hlo : LOk c.las) : Ct Tryz.prog Hy 10 [.ag (cE c), .sl (bl st), .sl (bl ii)] [.sl (bl (zbr c st ii).1), .i .i64 (zbr c st ii).2] := by
 have hmb := zd1 Hy c hr hgo hlo
 by_cases h0 : (zaw c).1 = 0
 rotate_left
 ·rw [show zbr c st ii = ([], 1) from if_neg h0]
  rw [decide_eq_false h0] at hmb
  obtain ⟨ins, outs, las, gts⟩ := c
  simp only [cE] at hmb ⊢
  refine zI (cls := _root_.id) zB zD Tryz.func10 rfl (by decide) (Nat.le_of_ble_eq_true rfl) ?_
  rw [show Tryz.f10.ntmps = 30 from rfl, zC]
  simp only [List.zipIdx_cons, List.zipIdx_nil, List.map_cons, List.map_nil, Nat.reduceAdd]
  repeat' first | apply zg | refine zf rfl fun K E hK hE => ?_ | (refine za fun κ η => ?_; simp only [go_sem, simprocAttr]; refine η _ ?_; clear η κ) | (refine zd (hK _ ?_); clear hE hK E K) | apply zb
  refine za fun κ η => ?_; simp only [go_sem, simprocAttr]; refine ⟨_, hmb, ?_⟩; simp only [go_sem, simprocAttr]; refine η _ ?_; clear η κ
  repeat' first | apply zg | refine zf rfl fun K E hK hE => ?_ | (refine za fun κ η => ?_; simp only [go_sem, simprocAttr]; refine η _ ?_; clear η κ) | (refine zd (hK _ ?_); clear hE hK E K) | apply zb | refine zh true rfl (fun _ => ?_) (fun h => (by cases h)) | apply zk | apply zy | (apply zm; apply zn; simp only [go_sem, simprocAttr])
  rfl
 rw [decide_eq_true h0] at hmb
 by_cases h1 : st.length = c.las.length
 rotate_left
 ·rw [show zbr c st ii = ([], 11) from (if_pos h0).trans (if_neg fun h => h1 h.1)]
  have h1' : ((st.length : Int) = c.las.length) = False := eq_false (by omega)
  obtain ⟨ins, outs, las, gts⟩ := c
  simp only [cE] at hmb h1' ⊢
  refine zI (cls := _root_.id) zB zD Tryz.func10 rfl (by decide) (Nat.le_of_ble_eq_true rfl) ?_
  rw [show Tryz.f10.ntmps = 30 from rfl, zC]
  simp only [List.zipIdx_cons, List.zipIdx_nil, List.map_cons, List.map_nil, Nat.reduceAdd]
  repeat' first | apply zg | refine zf rfl fun K E hK hE => ?_ | (refine za fun κ η => ?_; simp only [go_sem, simprocAttr]; refine η _ ?_; clear η κ) | (refine zd (hK _ ?_); clear hE hK E K) | apply zb
  refine za fun κ η => ?_; simp only [go_sem, simprocAttr]; refine ⟨_, hmb, ?_⟩; simp only [go_sem, simprocAttr]; refine η _ ?_; clear η κ
  repeat' first | apply zg | refine zf rfl fun K E hK hE => ?_ | ((first | refine za fun κ η => ?_ | refine zo rfl fun κ η => ?_); simp only [go_sem, simprocAttr, h1']; (repeat refine ⟨by omega, ?_⟩); refine η _ ?_; clear η κ) | (refine zd (hK _ ?_); clear hE hK E K) | apply zb | refine zh true rfl (fun _ => ?_) (fun h => (by cases h)) | refine zh false rfl (fun h => (by cases h)) fun _ => ?_ | apply zi | apply zk | apply zy | (apply zm; apply zn; simp only [go_sem, simprocAttr, h1'])
  rfl
 have h1' : ((st.length : Int) = c.las.length) = True := eq_true (by omega)
 by_cases h2 : ii.length = c.ins.length
 rotate_left
 ·rw [show zbr c st ii = ([], 11) from (if_pos h0).trans (if_neg fun h => h2 h.2)]
  have h2' : ((ii.length : Int) = c.ins.length) = False := eq_false (by omega)
  obtain ⟨ins, outs, las, gts⟩ := c
  simp only [cE] at hmb h1' h2' ⊢
  refine zI (cls := _root_.id) zB zD Tryz.func10 rfl (by decide) (Nat.le_of_ble_eq_true rfl) ?_
  rw [show Tryz.f10.ntmps = 30 from rfl, zC]
  simp only [List.zipIdx_cons, List.zipIdx_nil, List.map_cons, List.map_nil, Nat.reduceAdd]
  repeat' first | apply zg | refine zf rfl fun K E hK hE => ?_ | (refine za fun κ η => ?_; simp only [go_sem, simprocAttr]; refine η _ ?_; clear η κ) | (refine zd (hK _ ?_); clear hE hK E K) | apply zb
  refine za fun κ η => ?_; simp only [go_sem, simprocAttr]; refine ⟨_, hmb, ?_⟩; simp only [go_sem, simprocAttr]; refine η _ ?_; clear η κ
  repeat' first | apply zg | refine zf rfl fun K E hK hE => ?_ | ((first | refine za fun κ η => ?_ | refine zo rfl fun κ η => ?_); simp only [go_sem, simprocAttr, h1', h2']; (repeat refine ⟨by omega, ?_⟩); refine η _ ?_; clear η κ) | (refine zd (hK _ ?_); clear hE hK E K) | apply zb | refine zh true rfl (fun _ => ?_) (fun h => (by cases h)) | refine zh false rfl (fun h => (by cases h)) fun _ => ?_ | apply zi | apply zk | apply zy | (apply zm; apply zn; simp only [go_sem, simprocAttr, h1', h2'])
  rfl
 have h2' : ((ii.length : Int) = c.ins.length) = True := eq_true (by omega)
 rw [show zbr c st ii = (zat c st ii, 0) from (if_pos h0).trans (if_pos ⟨h1, h2⟩)]
 have hm := ((zcL c).1 h0).1
 have hnm := zfK Hy c hm hr hgo hlo
 have hvs := fun (g : Nat) (o : Nat → O) (h : Mch c g o) => zhP Hy c hm st ii h1 h2 h
 generalize zat c st ii = V at *
 simp only [cA] at hnm
 simp only [cE]
 refine zI (cls := _root_.id) zB zD Tryz.func10 rfl (by decide) (Nat.le_of_ble_eq_true rfl) ?_
 rw [show Tryz.f10.ntmps = 30 from rfl, zC]
 simp only [List.zipIdx_cons, List.zipIdx_nil, List.map_cons, List.map_nil, Nat.reduceAdd]
 repeat' first | apply zg | refine zf rfl fun K E hK hE => ?_ | (refine za fun κ η => ?_; simp only [go_sem, simprocAttr]; refine η _ ?_; clear η κ) | (refine zd (hK _ ?_); clear hE hK E K) | apply zb
 refine za fun κ η => ?_; simp only [go_sem, simprocAttr]; refine ⟨_, hmb, ?_⟩; simp only [go_sem, simprocAttr]; refine η _ ?_; clear η κ
 repeat' first | apply zg | refine zf rfl fun K E hK hE => ?_ | ((first | refine za fun κ η => ?_ | refine zo rfl fun κ η => ?_); simp only [go_sem, simprocAttr, h1', h2']; (repeat refine ⟨by omega, ?_⟩); refine η _ ?_; clear η κ) | (refine zd (hK _ ?_); clear hE hK E K) | apply zb | refine zh false rfl (fun h => (by cases h)) fun _ => ?_ | apply zi
 refine zaj fun κ η => ?_; simp only [go_sem, simprocAttr]; refine ⟨_, hnm _, ?_⟩; rintro _ o1 ⟨g, rfl, hmc, hfI⟩; simp only [go_sem, simprocAttr]; refine η _ ?_; clear η κ
 repeat' (refine za fun κ η => ?_; simp only [go_sem, simprocAttr]; refine η _ ?_; clear η κ)
 refine zaj fun κ η => ?_; simp only [go_sem, simprocAttr]; refine ⟨_, hvs _ _ hmc, ?_⟩; rintro _ o2 ⟨rfl, hF⟩; simp only [go_sem, simprocAttr]; refine η _ ?_; clear η κ
 repeat' first | (refine za fun κ η => ?_; simp only [go_sem, simprocAttr]; refine η _ ?_; clear η κ) | (refine zd (hK _ ?_); clear hE hK E K) | apply zb | apply zk | (apply zm; apply zn; simp only [go_sem, simprocAttr])
set_option maxHeartbeats 8000000 in
theorem zmO (c : Ci) (st ii : List Bool) (hr : CRoom c) (hgo : GOk c.gts) (hlo : LOk c.las) : Ct Tryz.prog Hy 12 [.ag (cE c), .sl (bl st), .sl (bl ii)] [.sl (bl (zbk c st ii).1), .sl (bl (zbk c st ii).2.1), .i .i64 (zbk c st ii).2.2] := by
 have hmb := zd1 Hy c hr hgo hlo
 by_cases h0 : (zaw c).1 = 0
 rotate_left
 ·rw [show zbk c st ii = ([], [], 1) from if_neg h0]
  rw [decide_eq_false h0] at hmb
  obtain ⟨ins, outs, las, gts⟩ := c
  simp only [cE] at hmb ⊢
  refine zI (cls := _root_.id) zB zD Tryz.func12 rfl (by decide) (Nat.le_of_ble_eq_true rfl) ?_
  rw [show Tryz.f12.ntmps = 38 from rfl, zC]
  simp only [List.zipIdx_cons, List.zipIdx_nil, List.map_cons, List.map_nil, Nat.reduceAdd]
  repeat' first | apply zg | refine zf rfl fun K E hK hE => ?_ | (refine za fun κ η => ?_; simp only [go_sem, simprocAttr]; refine η _ ?_; clear η κ) | (refine zd (hK _ ?_); clear hE hK E K) | apply zb
  refine za fun κ η => ?_; simp only [go_sem, simprocAttr]; refine ⟨_, hmb, ?_⟩; simp only [go_sem, simprocAttr]; refine η _ ?_; clear η κ
  repeat' first | apply zg | refine zf rfl fun K E hK hE => ?_ | (refine za fun κ η => ?_; simp only [go_sem, simprocAttr]; refine η _ ?_; clear η κ) | (refine zd (hK _ ?_); clear hE hK E K) | apply zb | refine zh true rfl (fun _ => ?_) (fun h => (by cases h)) | apply zk | apply zy | (apply zm; apply zn; simp only [go_sem, simprocAttr])
  rfl
 rw [decide_eq_true h0] at hmb
 by_cases h1 : st.length = c.las.length
 rotate_left
 ·rw [show zbk c st ii = ([], [], 11) from (if_pos h0).trans (if_neg fun h => h1 h.1)]
  have h1' : ((st.length : Int) = c.las.length) = False := eq_false (by omega)
  obtain ⟨ins, outs, las, gts⟩ := c
  simp only [cE] at hmb h1' ⊢
  refine zI (cls := _root_.id) zB zD Tryz.func12 rfl (by decide) (Nat.le_of_ble_eq_true rfl) ?_
  rw [show Tryz.f12.ntmps = 38 from rfl, zC]
  simp only [List.zipIdx_cons, List.zipIdx_nil, List.map_cons, List.map_nil, Nat.reduceAdd]
  repeat' first | apply zg | refine zf rfl fun K E hK hE => ?_ | (refine za fun κ η => ?_; simp only [go_sem, simprocAttr]; refine η _ ?_; clear η κ) | (refine zd (hK _ ?_); clear hE hK E K) | apply zb
  refine za fun κ η => ?_; simp only [go_sem, simprocAttr]; refine ⟨_, hmb, ?_⟩; simp only [go_sem, simprocAttr]; refine η _ ?_; clear η κ
  repeat' first | apply zg | refine zf rfl fun K E hK hE => ?_ | ((first | refine za fun κ η => ?_ | refine zo rfl fun κ η => ?_); simp only [go_sem, simprocAttr, h1']; (repeat refine ⟨by omega, ?_⟩); refine η _ ?_; clear η κ) | (refine zd (hK _ ?_); clear hE hK E K) | apply zb | refine zh true rfl (fun _ => ?_) (fun h => (by cases h)) | refine zh false rfl (fun h => (by cases h)) fun _ => ?_ | apply zi | apply zk | apply zy | (apply zm; apply zn; simp only [go_sem, simprocAttr, h1'])
  rfl
 have h1' : ((st.length : Int) = c.las.length) = True := eq_true (by omega)
 by_cases h2 : ii.length = c.ins.length
 rotate_left
 ·rw [show zbk c st ii = ([], [], 11) from (if_pos h0).trans (if_neg fun h => h2 h.2)]
  have h2' : ((ii.length : Int) = c.ins.length) = False := eq_false (by omega)
  obtain ⟨ins, outs, las, gts⟩ := c
  simp only [cE] at hmb h1' h2' ⊢
  refine zI (cls := _root_.id) zB zD Tryz.func12 rfl (by decide) (Nat.le_of_ble_eq_true rfl) ?_
  rw [show Tryz.f12.ntmps = 38 from rfl, zC]
  simp only [List.zipIdx_cons, List.zipIdx_nil, List.map_cons, List.map_nil, Nat.reduceAdd]
  repeat' first | apply zg | refine zf rfl fun K E hK hE => ?_ | (refine za fun κ η => ?_; simp only [go_sem, simprocAttr]; refine η _ ?_; clear η κ) | (refine zd (hK _ ?_); clear hE hK E K) | apply zb
  refine za fun κ η => ?_; simp only [go_sem, simprocAttr]; refine ⟨_, hmb, ?_⟩; simp only [go_sem, simprocAttr]; refine η _ ?_; clear η κ
  repeat' first | apply zg | refine zf rfl fun K E hK hE => ?_ | ((first | refine za fun κ η => ?_ | refine zo rfl fun κ η => ?_); simp only [go_sem, simprocAttr, h1', h2']; (repeat refine ⟨by omega, ?_⟩); refine η _ ?_; clear η κ) | (refine zd (hK _ ?_); clear hE hK E K) | apply zb | refine zh true rfl (fun _ => ?_) (fun h => (by cases h)) | refine zh false rfl (fun h => (by cases h)) fun _ => ?_ | apply zi | apply zk | apply zy | (apply zm; apply zn; simp only [go_sem, simprocAttr, h1', h2'])
  rfl
 have h2' : ((ii.length : Int) = c.ins.length) = True := eq_true (by omega)
 rw [show zbk c st ii = (zbK c (zat c st ii), zbB c (zat c st ii), 0) from (if_pos h0).trans (if_pos ⟨h1, h2⟩)]
 have hm := ((zcL c).1 h0).1
 have hnm := zfK Hy c hm hr hgo hlo
 have hvs := fun (g : Nat) (o : Nat → O) (h : Mch c g o) => ziy Hy c hm st ii h1 h2 h
 generalize zbK c (zat c st ii) = OV at *
 generalize zbB c (zat c st ii) = NV at *
 simp only [cA] at hnm
 simp only [cE]
 refine zI (cls := _root_.id) zB zD Tryz.func12 rfl (by decide) (Nat.le_of_ble_eq_true rfl) ?_
 rw [show Tryz.f12.ntmps = 38 from rfl, zC]
 simp only [List.zipIdx_cons, List.zipIdx_nil, List.map_cons, List.map_nil, Nat.reduceAdd]
 repeat' first | apply zg | refine zf rfl fun K E hK hE => ?_ | (refine za fun κ η => ?_; simp only [go_sem, simprocAttr]; refine η _ ?_; clear η κ) | (refine zd (hK _ ?_); clear hE hK E K) | apply zb
 refine za fun κ η => ?_; simp only [go_sem, simprocAttr]; refine ⟨_, hmb, ?_⟩; simp only [go_sem, simprocAttr]; refine η _ ?_; clear η κ
 repeat' first | apply zg | refine zf rfl fun K E hK hE => ?_ | ((first | refine za fun κ η => ?_ | refine zo rfl fun κ η => ?_); simp only [go_sem, simprocAttr, h1', h2']; (repeat refine ⟨by omega, ?_⟩); refine η _ ?_; clear η κ) | (refine zd (hK _ ?_); clear hE hK E K) | apply zb | refine zh false rfl (fun h => (by cases h)) fun _ => ?_ | apply zi
 refine zaj fun κ η => ?_; simp only [go_sem, simprocAttr]; refine ⟨_, hnm _, ?_⟩; rintro _ o1 ⟨g, rfl, hmc, hfI⟩; simp only [go_sem, simprocAttr]; refine η _ ?_; clear η κ
 repeat' (refine za fun κ η => ?_; simp only [go_sem, simprocAttr]; refine η _ ?_; clear η κ)
 refine zaj fun κ η => ?_; simp only [go_sem, simprocAttr]; refine ⟨_, hvs _ _ hmc, ?_⟩; rintro _ o2 ⟨rfl, hF⟩; simp only [go_sem, simprocAttr]; refine η _ ?_; clear η κ
 repeat' first | apply zg | refine zf rfl fun K E hK hE => ?_ | (refine za fun κ η => ?_; simp only [go_sem, simprocAttr]; refine η _ ?_; clear η κ) | (refine zd (hK _ ?_); clear hE hK E K) | apply zb | apply zk | (apply zm; apply zn; simp only [go_sem, simprocAttr])
def bb (l : List (List Bool)) : List (List T) := l.map fun x => [.sl (bl x)]
theorem zd3 (l : List (List Bool)) : (bb l).length = l.length := List.length_map _
attribute [go_sem] zd3
theorem zdp {l : List (List Bool)} {k : Nat} {x : List Bool} (h : l[k]? = some x) : (bb l)[k]? = some [.sl (bl x)] := by unfold bb; rw [List.getElem?_map, h]; rfl
theorem ziL (a b : List (List Bool)) : bb (a ++ b) = bb a ++ bb b := List.map_append
def stN (c : Ci) (st : List Bool) (seq : List (List Bool)) : Nat → List Bool
 | 0 => st
 | k + 1 => zbB c (zat c (stN c st seq k) (seq.getD k []))
def zcZ (c : Ci) (st : List Bool) (seq : List (List Bool)) (k : Nat) : List Bool := zbK c (zat c (stN c st seq k) (seq.getD k []))
theorem ziM (c : Ci) (v : List Bool) : (zbB c v).length = c.las.length := (zb0 c v _).trans (List.length_map _)
theorem ziN {c : Ci} {st : List Bool} {seq : List (List Bool)} (h : st.length = c.las.length) : ∀ k, (stN c st seq k).length = c.las.length
 | 0 => h
 | _ + 1 => ziM c _
def zbl (i : Nat) : Prop := zaT i ∨ (6300 ≤ i ∧ i < 6400) ∨ (6600 ≤ i ∧ i < 6700)
def FrS (o o' : Nat → O) : Prop := ∀ i, ¬ zbl i → o' i = o i
theorem zmP {n : Nat} {F : Nat → A} {G : Nat → O} {ts : List (Nat × A)} {os : List (Nat × O)} (h : ∀ p ∈ os.map (·.1), zbl p) : FrS G (nf n F G ts os).o := fun _ hi => zaY fun p hp e => hi (e ▸ h p hp)
theorem FrS.trans {o o1 o2 : Nat → O} (h : FrS o o1) (k : FrS o1 o2) : FrS o o2 := fun i hi => (k i hi).trans (h i hi)
def YS (c : Ci) (st : List Bool) (seq : List (List Bool)) (I : Nat → (Nat → O) → Prop) : YC := fun args o Rb => ∃ k, k < seq.length ∧ args = [.t (.sl (bl (zcZ c st seq k))), .t (.sl (bl (stN c st seq (k + 1))))] ∧ I k o ∧ ∀ o2, I (k + 1) o2 → (∀ i, zbl i → o2 i = o i) → Rb o2
structure StM (c : Ci) (seq : List (List Bool)) (g g3 g4 g5 : Nat) (cur : List Bool) (o : Nat → O) : Prop where
 a : o 6605 = ⟨g5, .cells 39 [.t (.sl (bb seq))]⟩
 b : o 6603 = ⟨g3, .cells 58 (mA c g)⟩
 d : o 6604 = ⟨g4, .cells 27 [.t (.sl (bl cur))]⟩
 m : Mch c g o
theorem zmQ (c : Ci) (st : List Bool) (seq : List (List Bool)) {g : Nat} {o : Nat → O} (ho : Mch c g o) : Cm Tryz.prog Hy 34 [.ag (mA c g), .t (.sl (bl st)), .t (.sl (bb seq))] o fun rs o' => ∃ g3 g4 g5, rs = [.fn 51 [] [.ptr 6605 g5 0, .ptr 6603 g3 0, .ptr 6604 g4 0]] ∧ StM c seq g g3 g4 g5 st o' ∧ FrI 6600 6700 o o' := by
 obtain ⟨Em, h1, h2⟩ := ho
 unfold mA
 refine zax (cls := fun d => 6600 + d) zB zD Tryz.func34 rfl (by decide) (Nat.le_of_ble_eq_true rfl) ?_
 rw [show Tryz.f34.ntmps = 8 from rfl, zC]
 simp only [List.zipIdx_cons, List.zipIdx_nil, List.map_cons, List.map_nil, Nat.reduceAdd]
 repeat' first | apply zg | refine zf rfl fun K E hK hE => ?_ | (refine za fun κ η => ?_; simp only [go_sem, simprocAttr]; refine η _ ?_; clear η κ) | (refine zd (hK _ ?_); clear hE hK E K) | apply zb | apply zk | (apply zm; apply zn; simp only [go_sem, simprocAttr])
 exact ⟨_, _, _, rfl, ⟨rfl, rfl, rfl, ⟨Em, h1, h2⟩⟩, zde rfl⟩
set_option maxHeartbeats 8000000 in
theorem zmR (c : Ci) (hm : MayC c) (st : List Bool) (seq : List (List Bool)) (hst : st.length = c.las.length) (hsq : ∀ x ∈ seq, x.length = c.ins.length) (hq40 : seq.length ≤ 40) {g g3 g4 g5 : Nat} {I : Nat → (Nat → O) → Prop} (hI : ∀ n o o', I n o → FrS o o' → I n o') {o : Nat → O} (h0 : I 0 o) (hS : StM c seq g g3 g4 g5 st o) (lb : Nat) :
  CmY Tryz.prog Hy 51 lb (YS c st seq I) [.t (.yl lb), .ptr 6605 g5 0, .ptr 6603 g3 0, .ptr 6604 g4 0] o fun rs o' => rs = [] ∧ I seq.length o' := by
 have hsl := fun k => ziN (seq := seq) hst k
 have hstep := fun (k : Nat) (hk : k < seq.length) (o : Nat → O) (h : Mch c g o) => ziy Hy c hm (stN c st seq k) (seq.getD k []) (hsl k) (hsq _ (by rw [List.getD_eq_getElem?_getD, List.getElem?_eq_getElem hk]; exact List.getElem_mem hk)) h
 refine zhd (cls := _root_.id) zB zD Tryz.func51 rfl (by decide) (Nat.le_of_ble_eq_true rfl) ?_
 rw [show Tryz.f51.ntmps = 29 from rfl, zC]
 simp only [List.zipIdx_cons, List.zipIdx_nil, List.map_cons, List.map_nil, Nat.reduceAdd]
 have hSa := hS.a
 repeat' first | apply zg | apply zj | refine zf rfl fun K E hK hE => ?_ | (refine za fun κ η => ?_; simp only [go_sem, simprocAttr, hSa]; refine η _ ?_; clear η κ) | (refine zd (hK _ ?_); clear hE hK E K) | apply zb
 refine zW (fun m s' => ∃ k, m = seq.length - k ∧ k ≤ seq.length ∧ ∃ F G0, s' = nf 29 F G0 [(0, .t (.yl lb)), (1, .ptr 6605 g5 0), (2, .ptr 6603 g3 0), (3, .ptr 6604 g4 0), (9, .t (.sl (bb seq))), (10, .t (.i .i64 seq.length)), (11, .t (.i .i64 k))] [] ∧ StM c seq g g3 g4 g5 (stN c st seq k) G0 ∧ I k G0) seq.length ?_ ?_
 ·exact ⟨0, by omega, by omega, _, _, zp rfl ⟨rfl, rfl, rfl, rfl, rfl, rfl, rfl, trivial⟩ trivial, hS, h0⟩
 clear h0 hS hSa
 rintro m s' ⟨k, rfl, hk, F, G0, rfl, hS, hi⟩
 by_cases hd : k < seq.length
 ·have hd' : ((k : Int) < seq.length) = True := eq_true (by omega)
  obtain ⟨x, hx⟩ : ∃ x, seq[k]? = some x := ⟨_, List.getElem?_eq_getElem hd⟩
  have hx' := zdp hx
  have hgd : seq.getD k [] = x := by rw [List.getD_eq_getElem?_getD, hx]; rfl
  have hst2 := hstep k hd
  rw [hgd] at hst2
  have ho1 : zcZ c st seq k = zbK c (zat c (stN c st seq k) x) := by unfold zcZ; rw [hgd]
  have hn1 : stN c st seq (k + 1) = zbB c (zat c (stN c st seq k) x) := by show zbB c _ = _; rw [hgd]
  rw [← ho1, ← hn1] at hst2
  have hb := hS.b
  have hdd := hS.d
  have hS' := hS
  clear hstep
  unfold mA at hb hst2
  repeat' first | apply zg | apply zj | refine zf rfl fun K E hK hE => ?_ | (refine za fun κ η => ?_; simp only [go_sem, simprocAttr, hd', hx', hb, hdd]; (repeat refine ⟨by omega, ?_⟩); refine η _ ?_; clear η κ) | (refine zd (hK _ ?_); clear hE hK E K) | apply zb | refine zh true rfl (fun _ => ?_) (fun h => (by cases h)) | apply zi
  refine zaj fun κ η => ?_; simp only [go_sem, simprocAttr]; refine ⟨_, hst2 _ hS.m, ?_⟩; rintro _ o2 ⟨rfl, hF⟩; simp only [go_sem, simprocAttr]; refine η _ ?_; clear η κ
  have hFs : FrS G0 o2 := fun i hi => hF i fun hw => hi (.inl hw)
  have hi2 := hI _ _ _ hi hFs
  have a2 : o2 6605 = _ := (hF 6605 (by unfold zaT zau; omega)).trans hS.a
  have b2 : o2 6603 = _ := (hF 6603 (by unfold zaT zau; omega)).trans hS.b
  have d2 : o2 6604 = _ := (hF 6604 (by unfold zaT zau; omega)).trans hS.d
  have m2 : Mch c g o2 := hS.m.frW hF
  clear hS hS' hb hdd hF hi
  repeat' first | apply zg | refine zf rfl fun K E hK hE => ?_ | (refine za fun κ η => ?_; simp only [go_sem, simprocAttr]; refine η _ ?_; clear η κ) | (refine zd (hK _ ?_); clear hE hK E K) | apply zb
  refine zhk hE fun κ η => ?_; simp only [go_sem, simprocAttr]
  refine ⟨fun o4 => I (k + 1) o4 ∧ ∀ i, zbl i → o4 i = o2 i, ⟨k, hd, rfl, hi2, fun o4 q1 q2 => ⟨q1, q2⟩⟩, ?_⟩
  rintro o4 ⟨hi4, hf4⟩
  refine η _ ?_
  clear η κ
  have d4 : o4 6604 = _ := (hf4 6604 (by unfold zbl; omega)).trans d2
  have a4 : o4 6605 = _ := (hf4 6605 (by unfold zbl; omega)).trans a2
  have b4 : o4 6603 = _ := (hf4 6603 (by unfold zbl; omega)).trans b2
  have m4 : Mch c g o4 := by
   obtain ⟨Em, e1, e2⟩ := m2
   exact ⟨Em, (hf4 6307 (by unfold zbl; omega)).trans e1, e2⟩
  repeat' first | refine zf rfl fun K E hK hE => ?_ | (refine za fun κ η => ?_; simp only [go_sem, simprocAttr, d4]; (repeat refine ⟨by omega, ?_⟩); refine η _ ?_; clear η κ) | (refine zd (hK _ ?_); clear hE hK E K) | apply zb | refine zh false rfl (fun h => (by cases h)) fun _ => ?_ | apply zq | apply zi | apply zs
  exact ⟨seq.length - (k + 1), by omega, k + 1, rfl, by omega, _, _, zp rfl ⟨rfl, rfl, rfl, rfl, rfl, rfl, rfl, trivial⟩ trivial, ⟨a4, b4, rfl, m4⟩, hI _ _ _ hi4 (zmP fun p hp => by simp only [List.map_cons, List.map_nil, List.mem_cons, List.not_mem_nil, or_false] at hp; unfold zbl; omega)⟩
 have hd' : ((k : Int) < seq.length) = False := eq_false (by omega)
 obtain rfl : k = seq.length := by omega
 repeat' first | apply zg | refine zf rfl fun K E hK hE => ?_ | (refine za fun κ η => ?_; simp only [go_sem, simprocAttr, hd']; refine η _ ?_; clear η κ) | (refine zd (hK _ ?_); clear hE hK E K) | apply zb | refine zh false rfl (fun h => (by cases h)) fun _ => ?_ | apply zt | apply zu | apply zw | apply zx | (apply zQ; apply zP; simp only [go_sem, simprocAttr, hd'])
 exact hi
end Go.Proofs.YtbhoeanfnbkenaaGreatDoor
