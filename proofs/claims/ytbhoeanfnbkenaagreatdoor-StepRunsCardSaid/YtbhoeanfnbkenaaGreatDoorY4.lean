import Derived.Test.YtbhoeanfnbkenaaGreatDoorY3
namespace Go.Proofs.YtbhoeanfnbkenaaGreatDoor
open Go.RowKit Go.WideMaps
set_option maxRecDepth 100000
set_option linter.unusedSimpArgs false
variable (Hy : World → Prop)
attribute [local irreducible] zU zY cwp z1 z6 lpQ z8 asQ bdQ bdY zab zac zad zaa
def plN (c : Ci) (s : ByteArray) : Nat := (plC c s).toNat
theorem zes {c : Ci} (hm : May c) {s : ByteArray} (h : s ∈ z2 c) : (z2 c)[plN c s]? = some s ∧ plC c s = (plN c s : Nat) := by
 obtain ⟨k, hk, e⟩ := List.getElem_of_mem h
 have h1 : (z2 c)[k]? = some s := by rw [List.getElem?_eq_getElem hk, e]
 have h2 : plC c s = (k : Nat) := zkb hm.once h1
 unfold plN
 rw [h2]
 exact ⟨h1, rfl⟩
def gvs (c : Ci) (vals : List Bool) (l : List ByteArray) : List Bool := l.map fun s => vals.getD (plN c s) false
def zdc (c : Ci) (vals : List Bool) (k : Nat) : List Bool := vals.set (c.ins.length + c.las.length + k) (zbp (gat c.gts k) (gvs c vals (gat c.gts k).ins))
def zbz (c : Ci) (st ii : List Bool) (m : Nat) : List Bool := ((zZ c.gts).1.take m).foldl (zdc c) (ii ++ st ++ List.replicate c.gts.length false)
def zat (c : Ci) (st ii : List Bool) : List Bool := zbz c st ii (zZ c.gts).1.length
theorem zhN {c : Ci} {st ii : List Bool} {m k : Nat} (h : (zZ c.gts).1[m]? = some k) : zbz c st ii (m + 1) = zdc c (zbz c st ii m) k := zmk _ _ h
theorem zhO (c : Ci) : ∀ (l : List Nat) (v : List Bool), (l.foldl (zdc c) v).length = v.length
 | [], _ => rfl
 | k :: l, v => by
  rw [List.foldl_cons, zhO c l]
  unfold zdc
  rw [List.length_set]
theorem zet (c : Ci) (st ii : List Bool) (m : Nat) : (zbz c st ii m).length = ii.length + st.length + c.gts.length := by
 unfold zbz
 rw [zhO]
 simp [Nat.add_assoc]
theorem zdd {c : Ci} {vals : List Bool} {l : List ByteArray} {k : Nat} {s : ByteArray} (h : l[k]? = some s) : gvs c vals (l.take (k + 1)) = gvs c vals (l.take k) ++ [vals.getD (plN c s) false] := by
 unfold gvs
 rw [List.take_add_one, h, List.map_append]
 rfl
theorem zb0 (c : Ci) (vals : List Bool) (l : List ByteArray) : (gvs c vals l).length = l.length := List.length_map _
def zau (i : Nat) : Prop := i = 2305 ∨ (6500 ≤ i ∧ i < 6600) ∨ (7100 ≤ i ∧ i < 7300)
def FrV (o o' : Nat → O) : Prop := ∀ i, ¬ zau i → o' i = o i
theorem FrV.refl (o : Nat → O) : FrV o o := fun _ _ => rfl
theorem FrV.trans {o o1 o2 : Nat → O} (h : FrV o o1) (k : FrV o1 o2) : FrV o o2 := fun i hi => (k i hi).trans (h i hi)
theorem zle {n : Nat} {F : Nat → A} {G : Nat → O} {ts : List (Nat × A)} {os : List (Nat × O)} (h : ∀ p ∈ os.map (·.1), zau p) : FrV G (nf n F G ts os).o := fun _ hi => zaY fun p hp e => hi (e ▸ h p hp)
theorem Mch.fr {c : Ci} {g : Nat} {o o' : Nat → O} (h : Mch c g o) (hf : FrV o o') : Mch c g o' := by
 obtain ⟨E, h1, h2⟩ := h
 exact ⟨E, (hf 6307 (by unfold zau; omega)).trans h1, h2⟩
theorem zlf {g : Gt} (h : zaM g = true) : opB g.op = true ∧ (g.op = 10 → g.rows.length ≤ 128 ∧ ∀ r ∈ g.rows, r.length = g.ins.length) := by
 have := zcU (g := g) (ins := List.replicate g.ins.length false) (by unfold okG; rw [h, List.length_replicate, decide_eq_true rfl]; rfl)
 rw [List.length_replicate] at this
 exact ⟨this.1, this.2.2⟩
set_option maxHeartbeats 16000000 in
theorem zhP (c : Ci) (hm : MayC c) (st ii : List Bool) (hs : st.length = c.las.length) (hi : ii.length = c.ins.length) {g : Nat} {o : Nat → O} (ho : Mch c g o) :
  Cm Tryz.prog Hy 28 [.ag (mA c g), .t (.sl (bl st)), .t (.sl (bl ii))] o fun rs o' => rs = [.t (.sl (bl (zat c st ii)))] ∧ FrV o o' := by
 have hM := zdT
 have hks : zaS tt 9 = .str := rfl
 obtain ⟨E, hE0, hE⟩ := ho
 obtain ⟨⟨h200, _⟩, hg8⟩ := zcS hm
 have hmay := hm.may
 have hcl := fun (o : Nat → O) => zld Hy ii (by omega) (o := o) (R := [] ++ [2305]) (by simp)
 have hlook : ∀ s ∈ z2 c, zam E (.s s) = some (.t (.i .i64 (plN c s))) ∧ plN c s < (z2 c).length := fun s h => by
  have h1 := (zes hmay h).1
  have h2 := (List.getElem?_eq_some_iff.1 h1).1
  exact ⟨hE _ s h2 h1, h2⟩
 rw [zb6] at hlook
 have hsz := zeW ((zct c).2 hm)
 have hused : ∀ k, k < c.gts.length → ∀ s ∈ (gat c.gts k).ins, s ∈ z2 c := fun k hk s h => hm.used s (by
  unfold zbg
  exact List.mem_append_right _ (List.mem_append_right _ (List.mem_flatMap.2 ⟨_, zcK hk, h⟩)))
 have hlt := (zef c.gts).lt
 have hgB : ∀ k, k < c.gts.length → zaM (gat c.gts k) = true := fun k hk => hm.gts _ (zcK hk)
 have hg8' : ∀ k, k < c.gts.length → (gat c.gts k).ins.length ≤ 8 ∧ (gat c.gts k).rows.length ≤ 128 := fun k hk => hg8 _ (zcK hk)
 have hvs := fun m k => zhN (c := c) (st := st) (ii := ii) (m := m) (k := k)
 have hvl := fun m => zet c st ii m
 have hv0 : bl (zbz c st ii 0) = bl ii ++ bl st ++ List.replicate c.gts.length [.b false] := by
  show bl (ii ++ st ++ List.replicate c.gts.length false) = _
  rw [zbV, zbV, ziJ]
 have hLl : (zZ c.gts).1.length ≤ c.gts.length := by have := zg7 c.gts; omega
 have hfrv : ∀ {n : Nat} {F : Nat → A} {G : Nat → O} {ts : List (Nat × A)} {os : List (Nat × O)}, (∀ p ∈ os.map (·.1), zau p) → FrV G (nf n F G ts os).o := zle
 unfold mA zat
 have hst1 := zcY st
 have hii1 := zcY ii
 generalize hL : (zZ c.gts).1 = L at *
 refine zax (cls := fun d => 6500 + d) zB zD Tryz.func28 rfl (by decide) (Nat.le_of_ble_eq_true rfl) ?_
 rw [show Tryz.f28.ntmps = 75 from rfl, zC]
 simp only [List.zipIdx_cons, List.zipIdx_nil, List.map_cons, List.map_nil, Nat.reduceAdd]
 repeat' first | apply zg | refine zf rfl fun K E hK hE => ?_ | (refine za fun κ η => ?_; simp only [go_sem, simprocAttr]; refine η _ ?_; clear η κ) | (refine zd (hK _ ?_); clear hE hK E K) | apply zb
 refine zcH (R := []) (W := [2305]) fun κ η => ?_; simp only [go_sem, simprocAttr]; refine ⟨_, _, ?wr_, hcl _, ?_⟩; (case wr_ => rfl); (try simp only [go_sem, simprocAttr]); refine η _ ?_; clear η κ
 repeat' first | apply zg | apply zj | refine zf rfl fun K E hK hE => ?_ | (refine za fun κ η => ?_; simp only [go_sem, simprocAttr, hst1, List.length_append, zaX, hi, hs, Int.toNat_natCast]; (repeat refine ⟨by (first | omega | exact ⟨_, rfl⟩), ?_⟩); refine η _ ?_; clear η κ) | (refine zd (hK _ ?_); clear hE hK E K) | apply zb
 have hLc : (zaf L).length = L.length := zd0 L
 refine zW (fun m s' => ∃ n : Nat, m = L.length - n ∧ n ≤ L.length ∧ ∃ F G0 q, s' = nf 75 F G0 [(3, .ptr 6503 ((o 6503).gen + 1) 0), (7, .row 2305 q), (8, .t (.i .i64 ((c.ins.length : Int) + c.las.length))), (29, .t (.sl (iR (zaf L)))), (30, .t (.i .i64 L.length)), (31, .t (.i .i64 n))] [] ∧ G0 2305 = ⟨q, .row 4 1 (bl (zbz c st ii n))⟩ ∧ G0 6307 = ⟨g, .map .str E⟩ ∧ G0 6503 = ⟨(o 6503).gen + 1, .cells 58 [.t (.sl (sR c.ins)), .t (.sl (sR c.outs)), .t (.sl (lsR c.las)), .t (.sl (gsR c.gts)), .row 6307 g, .t (.sl (iR (zaf L)))]⟩ ∧ FrV o G0) L.length ?_ ?_
 ·refine ⟨0, by omega, by omega, _, _, _, zp rfl ⟨rfl, rfl, rfl, rfl, by rw [← hLc]; rfl, rfl, trivial⟩ trivial, by rw [hv0]; rfl, hE0, rfl, hfrv (fun p hp => by simp only [List.map_cons, List.map_nil, List.mem_cons, List.not_mem_nil, or_false] at hp; unfold zau; omega)⟩
 rintro m s' ⟨n, rfl, hn, F, G0, q, rfl, b5, b7, b3, hfr⟩
 by_cases hdn : n < L.length
 ·have hd' : ((n : Int) < L.length) = True := eq_true (by omega)
  obtain ⟨k, hk⟩ : ∃ k, L[n]? = some k := ⟨_, List.getElem?_eq_getElem hdn⟩
  have hkl := hlt k (List.mem_of_getElem? hk)
  have hk' := zfS hk
  have hg' := zaQ (zfi hkl)
  have hvn := hvs n k hk
  have hvln := hvl n
  have hgb := hgB k hkl
  obtain ⟨hq8, hr8⟩ := hg8' k hkl
  have husd := hused k hkl
  unfold zdc at hvn
  generalize hV2 : zbz c st ii (n + 1) = V2 at hvn
  generalize hV : zbz c st ii n = V at *
  generalize gat c.gts k = gg at *
  apply zg
  repeat' first | refine zf rfl fun K E hK hE => ?_ | (refine za fun κ η => ?_; simp only [go_sem, simprocAttr, hd']; refine η _ ?_; clear η κ) | (refine zd (hK _ ?_); clear hE hK E K) | apply zb
  apply zg
  repeat' first | apply zb | refine zh true rfl (fun _ => ?_) (fun h => (by cases h)) | apply zi
  apply zg
  repeat' apply zj
  apply zg
  repeat' first | refine zf rfl fun K E hK hE => ?_ | (refine za fun κ η => ?_; simp only [go_sem, simprocAttr, hk']; (repeat refine ⟨by omega, ?_⟩); refine η _ ?_; clear η κ) | (refine zd (hK _ ?_); clear hE hK E K) | apply zb
  apply zg
  repeat' first | refine zf rfl fun K E hK hE => ?_ | (refine za fun κ η => ?_; simp only [go_sem, simprocAttr, b3, hg']; (repeat refine ⟨by omega, ?_⟩); refine η _ ?_; clear η κ) | (refine zd (hK _ ?_); clear hE hK E K) | apply zb
  apply zg
  repeat' first | refine zf rfl fun K E hK hE => ?_ | (refine za fun κ η => ?_; simp only [go_sem, simprocAttr]; refine η _ ?_; clear η κ) | (refine zd (hK _ ?_); clear hE hK E K) | apply zb
  refine zcv (fun s => ∃ F G1 e, s = nf 75 F G1 [(3, .ptr 6503 ((o 6503).gen + 1) 0), (7, .row 2305 q), (8, .t (.i .i64 ((c.ins.length : Int) + c.las.length))), (29, .t (.sl (iR (zaf L)))), (30, .t (.i .i64 L.length)), (31, .t (.i .i64 n)), (10, .t (.i .i64 (k : Nat))), (11, .ptr 6511 e 0), (12, .t (.sl (bl (gvs c V gg.ins))))] [] ∧ G1 6511 = ⟨e, .cells 47 [.t (.s gg.name), .t (.i .i64 gg.op), .t (.sl (sR gg.ins)), .t (.sl (rR gg.rows)), .t (.b gg.off)]⟩ ∧ G1 2305 = ⟨q, .row 4 1 (bl V)⟩ ∧ G1 6307 = ⟨g, .map .str E⟩ ∧ G1 6503 = ⟨(o 6503).gen + 1, .cells 58 [.t (.sl (sR c.ins)), .t (.sl (sR c.outs)), .t (.sl (lsR c.las)), .t (.sl (gsR c.gts)), .row 6307 g, .t (.sl (iR (zaf L)))]⟩ ∧ FrV o G1) ?_ ?_
  rotate_left
  ·intro N hN
   repeat' first | apply zg | apply zj | refine zf rfl fun K E hK hE => ?_ | (refine za fun κ η => ?_; simp only [go_sem, simprocAttr]; (repeat refine ⟨by omega, ?_⟩); refine η _ ?_; clear η κ) | (refine zd (hK _ ?_); clear hE hK E K) | apply zb
   refine zW (fun m s' => ∃ p : Nat, m = gg.ins.length - p ∧ p ≤ gg.ins.length ∧ ∃ F G1 e yy, s' = nf 75 F G1 [(3, .ptr 6503 ((o 6503).gen + 1) 0), (7, .row 2305 q), (8, .t (.i .i64 ((c.ins.length : Int) + c.las.length))), (29, .t (.sl (iR (zaf L)))), (30, .t (.i .i64 L.length)), (31, .t (.i .i64 n)), (10, .t (.i .i64 (k : Nat))), (11, .ptr 6511 e 0), (12, yy), (42, .t (.sl (sR gg.ins))), (43, .t (.i .i64 gg.ins.length)), (44, .t (.i .i64 p))] [] ∧ Acc G1 6557 4 1 (bl (gvs c V (gg.ins.take p))) yy ∧ G1 6511 = ⟨e, .cells 47 [.t (.s gg.name), .t (.i .i64 gg.op), .t (.sl (sR gg.ins)), .t (.sl (rR gg.rows)), .t (.b gg.off)]⟩ ∧ G1 2305 = ⟨q, .row 4 1 (bl V)⟩ ∧ G1 6307 = ⟨g, .map .str E⟩ ∧ G1 6503 = ⟨(o 6503).gen + 1, .cells 58 [.t (.sl (sR c.ins)), .t (.sl (sR c.outs)), .t (.sl (lsR c.las)), .t (.sl (gsR c.gts)), .row 6307 g, .t (.sl (iR (zaf L)))]⟩ ∧ FrV o G1) gg.ins.length ?_ ?_
   ·exact ⟨0, by omega, by omega, _, _, _, _, zp rfl ⟨rfl, rfl, rfl, rfl, rfl, rfl, rfl, rfl, rfl, rfl, rfl, rfl, trivial⟩ trivial, .inl ⟨rfl, rfl⟩, rfl, b5, b7, b3, hfr.trans (hfrv (fun p hp => by simp only [List.map_cons, List.map_nil, List.mem_cons, List.not_mem_nil, or_false] at hp; unfold zau; omega))⟩
   clear b5 b7 b3 hfr
   rintro m s' ⟨p, rfl, hp, F, G1, e, yy, rfl, hy, b11, b5, b7, b3, hfr⟩
   have hlen : (bl (gvs c V (gg.ins.take p))).length ≤ 1000 := by rw [zaX, zb0, List.length_take]; omega
   by_cases hdp : p < gg.ins.length
   ·have hd2 : ((p : Int) < gg.ins.length) = True := eq_true (by omega)
    obtain ⟨s, hs3⟩ : ∃ s, gg.ins[p]? = some s := ⟨_, List.getElem?_eq_getElem hdp⟩
    have hs' := za5 hs3
    have hsu := husd s (List.mem_of_getElem? hs3)
    obtain ⟨hget, hpl⟩ := hlook s hsu
    have hzs := hsz s hsu
    obtain ⟨x, hx⟩ : ∃ x, V[plN c s]? = some x := ⟨_, List.getElem?_eq_getElem (by omega)⟩
    have hx' := zbM hx
    have hsn : bl (gvs c V (gg.ins.take (p + 1))) = bl (gvs c V (gg.ins.take p)) ++ [[.b x]] := by
     rw [zdd hs3, zbV, List.getD_eq_getElem?_getD, hx]
     rfl
    generalize bl (gvs c V (gg.ins.take p)) = rw0 at hsn hlen hy
    rcases hy with ⟨y0, rfl⟩ | ⟨q', rfl, hr2⟩
    ·rw [y0] at hsn
     repeat' first | apply zg | apply zj | refine zf rfl fun K E hK hE => ?_ | (refine za fun κ η => ?_; simp only [go_sem, simprocAttr, hd2, hs', b3, b5, b7, hks, Ky.ok, hget, hx']; (repeat refine ⟨by omega, ?_⟩); refine η _ ?_; clear η κ) | (refine zd (hK _ ?_); clear hE hK E K) | apply zb | refine zh true rfl (fun _ => ?_) (fun h => (by cases h)) | apply zq | apply zi | apply zs
     exact ⟨gg.ins.length - (p + 1), by omega, p + 1, rfl, by omega, _, _, _, _, zp rfl ⟨rfl, rfl, rfl, rfl, rfl, rfl, rfl, rfl, rfl, rfl, rfl, rfl, trivial⟩ trivial, .inr ⟨_, rfl, by rw [hsn]; rfl⟩, b11, b5, b7, b3, hfr.trans (hfrv (fun p hp => by simp only [List.map_cons, List.map_nil, List.mem_cons, List.not_mem_nil, or_false] at hp; unfold zau; omega))⟩
    ·repeat' first | apply zg | apply zj | refine zf rfl fun K E hK hE => ?_ | (refine za fun κ η => ?_; simp only [go_sem, simprocAttr, hd2, hs', b3, b5, b7, hks, Ky.ok, hget, hx', hr2]; (repeat refine ⟨by omega, ?_⟩); refine η _ ?_; clear η κ) | (refine zd (hK _ ?_); clear hE hK E K) | apply zb | refine zh true rfl (fun _ => ?_) (fun h => (by cases h)) | apply zq | apply zi | apply zs
     exact ⟨gg.ins.length - (p + 1), by omega, p + 1, rfl, by omega, _, _, _, _, zp rfl ⟨rfl, rfl, rfl, rfl, rfl, rfl, rfl, rfl, rfl, rfl, rfl, rfl, trivial⟩ trivial, .inr ⟨_, rfl, by rw [hsn]; rfl⟩, b11, b5, b7, b3, hfr.trans (hfrv (fun p hp => by simp only [List.map_cons, List.map_nil, List.mem_cons, List.not_mem_nil, or_false] at hp; unfold zau; omega))⟩
   have hd2 : ((p : Int) < gg.ins.length) = False := eq_false (by omega)
   rw [List.take_of_length_le (by omega)] at hy
   rcases hy with ⟨y0, rfl⟩ | ⟨q', rfl, hr2⟩
   ·skip
    repeat' first | apply zg | refine zf rfl fun K E hK hE => ?_ | (refine za fun κ η => ?_; simp only [go_sem, simprocAttr, hd2]; refine η _ ?_; clear η κ) | (refine zd (hK _ ?_); clear hE hK E K)
    apply zb
    repeat' first | apply zg | refine zh false rfl (fun h => (by cases h)) fun _ => ?_ | apply zt | apply zu | apply zw | apply zx
    refine zby 12 (by decide) (t0 := ?zt1) (up0 := ?zu1) ?zf1 ?zh1; (case zf1 => simp only [go_sem, simprocAttr]; (repeat' apply And.intro) <;> first | rfl | assumption | decide); simp only [List.reverse_cons, List.reverse_nil, List.nil_append, List.cons_append]
    exact hN _ ⟨_, _, _, zp rfl ⟨rfl, rfl, rfl, rfl, rfl, rfl, rfl, rfl, by rw [y0]; rfl, trivial⟩ trivial, b11, b5, b7, b3, hfr⟩
   ·skip
    repeat' first | apply zg | refine zf rfl fun K E hK hE => ?_ | (refine za fun κ η => ?_; simp only [go_sem, simprocAttr, hd2]; refine η _ ?_; clear η κ) | (refine zd (hK _ ?_); clear hE hK E K)
    apply zb
    repeat' first | apply zg | refine zh false rfl (fun h => (by cases h)) fun _ => ?_ | apply zt | apply zu | apply zw | apply zx
    refine zby 12 (by decide) (t0 := ?zt2) (up0 := ?zu2) ?zf2 ?zh2; (case zf2 => simp only [go_sem, simprocAttr, hr2]; (repeat' apply And.intro) <;> first | rfl | assumption | decide); simp only [List.reverse_cons, List.reverse_nil, List.nil_append, List.cons_append]
    exact hN _ ⟨_, _, _, zp rfl ⟨rfl, rfl, rfl, rfl, rfl, rfl, rfl, rfl, rfl, trivial⟩ trivial, b11, b5, b7, b3, hfr.trans (hfrv (fun p hp => by simp only [List.map_cons, List.map_nil, List.mem_cons, List.not_mem_nil, or_false] at hp; unfold zau; omega))⟩
  clear b5 b7 b3 hfr
  rintro s ⟨F, G1, e, rfl, b11, b5, b7, b3, hfr⟩
  obtain ⟨hop, h10⟩ := zlf hgb
  have hol : (gvs c V gg.ins).length = gg.ins.length := zb0 c V gg.ins
  generalize gvs c V gg.ins = OF at *
  have hor := of_decide_eq_true hop
  have hru : ∀ o : Nat → O, Cd Tryz.prog Hy 37 [.ag [.t (.s gg.name), .t (.i .i64 gg.op), .t (.sl (sR gg.ins)), .t (.sl (rR gg.rows)), .t (.b gg.off)]] o ([] ++ [7101, 7102, 7103]) [(7102, ⟨(o 7102).gen + 1, .none⟩), (7103, ⟨(o 7103).gen + 1, .none⟩), (7101, ⟨(o 7101).gen + 1, .cells 47 [.t (.s gg.name), .t (.i .i64 gg.op), .t (.sl (sR gg.ins)), .t (.sl (rR gg.rows)), .t (.b gg.off)]⟩)] (.ag [.fn (zb3 gg.op) [] (if gg.op = 10 then [.ptr 7101 ((o 7101).gen + 1) 0] else []), .fn (zbJ gg) [] []]) := fun o => ziu Hy gg hop ⟨by simp, by simp, by simp⟩
  have htu := fun (b : Bool) (o : Nat → O) (R : List Nat) => zir Hy gg b (o := o) (R := R)
  have hv : (zcj gg != zbo gg OF) = zbp gg OF := rfl
  have hidx : ((c.ins.length : Int) + c.las.length + (k : Nat)) = ((c.ins.length + c.las.length + k : Nat) : Int) := by omega
  obtain ⟨old, hold⟩ : ∃ old, V[c.ins.length + c.las.length + k]? = some old := ⟨_, List.getElem?_eq_getElem (by omega)⟩
  have hold' := zbM hold
  have hset : (bl V).set (c.ins.length + c.las.length + k) [.b (zbp gg OF)] = bl V2 := by rw [ziI, hvn]
  clear hvn
  by_cases hten : gg.op = 10
  ·obtain ⟨hr1, hr2⟩ := h10 hten
   have hF : zb3 gg.op = 63 := by rw [hten]; rfl
   have h4 : ∀ (o : Nat → O) (q : Nat), o 7101 = ⟨q, .cells 47 [.t (.s gg.name), .t (.i .i64 gg.op), .t (.sl (sR gg.ins)), .t (.sl (rR gg.rows)), .t (.b gg.off)]⟩ → Cd Tryz.prog Hy 63 [.t (.sl (bl OF)), .ptr 7101 q 0] o ([7101] ++ [7202]) [(7202, ⟨(o 7202).gen + 1, .none⟩)] (.t (.b (zbo gg OF))) := fun o q h => zit Hy gg OF hten (by omega) (by omega) (fun r hm => ⟨by rw [hr2 r hm, hol]; exact Nat.le_refl _, by rw [hr2 r hm]; omega⟩) h ⟨by simp, by simp⟩
   simp only [if_pos hten, hF] at hru
   generalize zbJ gg = tf at *
   generalize zbp gg OF = gv at *
   generalize zbo gg OF = av at *
   have hv2 : ∀ b, b = av → (zcj gg != b) = gv := fun b h => by rw [h]; exact hv
   repeat' first | apply zg | refine zf rfl fun K E hK hE => ?_ | (refine za fun κ η => ?_; simp only [go_sem, simprocAttr, b11]; refine η _ ?_; clear η κ)
   refine zcH (R := []) (W := [7101, 7102, 7103]) fun κ η => ?_; simp only [go_sem, simprocAttr]; refine ⟨_, _, ?wr_, hru _, ?_⟩; (case wr_ => rfl); (try simp only [go_sem, simprocAttr]); refine η _ ?_; clear η κ
   repeat' first | refine zG rfl (by kernel_rfl) fun K E hK hE => ?_ | ((first | refine za fun κ η => ?_ | refine zr (by kernel_rfl) fun κ η => ?_); simp only [go_sem, simprocAttr]; (repeat refine ⟨by omega, ?_⟩); refine η _ ?_; clear η κ) | (refine zd (hK _ ?_); clear hE hK E K) | apply zb
   refine zbm (R := [7101]) (W := [7202]) (by kernel_rfl) fun κ η => ?_; simp only [go_sem, simprocAttr]; refine ⟨_, _, ?wr_, h4 _ _ rfl, ?_⟩; (case wr_ => rfl); (try simp only [go_sem, simprocAttr]); refine η _ ?_; clear η κ
   repeat' (refine zr (by kernel_rfl) fun κ η => ?_; simp only [go_sem, simprocAttr]; refine η _ ?_; clear η κ)
   refine zbm (R := []) (W := []) (by kernel_rfl) fun κ η => ?_; simp only [go_sem, simprocAttr]; refine ⟨_, _, ?wr_, htu _ _ _, ?_⟩; (case wr_ => rfl); (try simp only [go_sem, simprocAttr]); refine η _ ?_; clear η κ
   repeat' first | refine zf rfl fun K E hK hE => ?_ | ((first | refine za fun κ η => ?_ | refine zr (by kernel_rfl) fun κ η => ?_); simp only [go_sem, simprocAttr, hv, hidx, b5, hold', hset]; (repeat refine ⟨by omega, ?_⟩); refine η _ ?_; clear η κ) | (refine zd (hK _ ?_); clear hE hK E K) | apply zb | (refine zH (hK _ ?_); clear hE hK E K) | apply zq | apply zs
   exact ⟨L.length - (n + 1), by omega, n + 1, rfl, by omega, _, _, _, zp rfl ⟨rfl, rfl, rfl, rfl, rfl, rfl, trivial⟩ trivial, by rw [hV2]; rfl, b7, b3, hfr.trans (hfrv (fun p hp => by simp only [List.map_cons, List.map_nil, List.mem_cons, List.not_mem_nil, or_false] at hp; unfold zau; omega))⟩
  ·have has : ∀ (o : Nat → O) (R : List Nat), Cd Tryz.prog Hy (zb3 gg.op) [.t (.sl (bl OF))] o R [] (.t (.b (zbo gg OF))) := fun o R => zis Hy gg OF ⟨hor.1, by omega⟩ (by omega)
   simp only [if_neg hten] at hru
   generalize zbJ gg = tf at *
   generalize zb3 gg.op = af at *
   generalize zbp gg OF = gv at *
   generalize zbo gg OF = av at *
   repeat' first | apply zg | refine zf rfl fun K E hK hE => ?_ | (refine za fun κ η => ?_; simp only [go_sem, simprocAttr, b11]; refine η _ ?_; clear η κ)
   refine zcH (R := []) (W := [7101, 7102, 7103]) fun κ η => ?_; simp only [go_sem, simprocAttr]; refine ⟨_, _, ?wr_, hru _, ?_⟩; (case wr_ => rfl); (try simp only [go_sem, simprocAttr]); refine η _ ?_; clear η κ
   repeat' first | refine zG rfl (by kernel_rfl) fun K E hK hE => ?_ | ((first | refine za fun κ η => ?_ | refine zr (by kernel_rfl) fun κ η => ?_); simp only [go_sem, simprocAttr]; (repeat refine ⟨by omega, ?_⟩); refine η _ ?_; clear η κ) | (refine zd (hK _ ?_); clear hE hK E K) | apply zb
   refine zbm (R := []) (W := []) (by kernel_rfl) fun κ η => ?_; simp only [go_sem, simprocAttr]; refine ⟨_, _, ?wr_, has _ _, ?_⟩; (case wr_ => rfl); (try simp only [go_sem, simprocAttr]); refine η _ ?_; clear η κ
   repeat' (refine zr (by kernel_rfl) fun κ η => ?_; simp only [go_sem, simprocAttr]; refine η _ ?_; clear η κ)
   refine zbm (R := []) (W := []) (by kernel_rfl) fun κ η => ?_; simp only [go_sem, simprocAttr]; refine ⟨_, _, ?wr_, htu _ _ _, ?_⟩; (case wr_ => rfl); (try simp only [go_sem, simprocAttr]); refine η _ ?_; clear η κ
   repeat' first | refine zf rfl fun K E hK hE => ?_ | ((first | refine za fun κ η => ?_ | refine zr (by kernel_rfl) fun κ η => ?_); simp only [go_sem, simprocAttr, hv, hidx, b5, hold', hset]; (repeat refine ⟨by omega, ?_⟩); refine η _ ?_; clear η κ) | (refine zd (hK _ ?_); clear hE hK E K) | apply zb | (refine zH (hK _ ?_); clear hE hK E K) | apply zq | apply zs
   exact ⟨L.length - (n + 1), by omega, n + 1, rfl, by omega, _, _, _, zp rfl ⟨rfl, rfl, rfl, rfl, rfl, rfl, trivial⟩ trivial, by rw [hV2]; rfl, b7, b3, hfr.trans (hfrv (fun p hp => by simp only [List.map_cons, List.map_nil, List.mem_cons, List.not_mem_nil, or_false] at hp; unfold zau; omega))⟩
 have hd' : ((n : Int) < L.length) = False := eq_false (by omega)
 obtain rfl : n = L.length := by omega
 repeat' first | apply zg | refine zf rfl fun K E hK hE => ?_ | (refine za fun κ η => ?_; simp only [go_sem, simprocAttr, hd']; refine η _ ?_; clear η κ) | (refine zd (hK _ ?_); clear hE hK E K)
 apply zb
 repeat' first | apply zg | refine zh false rfl (fun h => (by cases h)) fun _ => ?_ | apply zt | apply zu | apply zw | apply zx
 apply zb
 repeat' first | apply zg | refine zf rfl fun K E hK hE => ?_ | (refine za fun κ η => ?_; simp only [go_sem, simprocAttr]; refine η _ ?_; clear η κ) | (refine zd (hK _ ?_); clear hE hK E K)
 refine zby 6 (by decide) (t0 := ?zt3) (up0 := ?zu3) ?zf3 ?zh3; (case zf3 => simp only [go_sem, simprocAttr, b5]; (repeat' apply And.intro) <;> first | rfl | assumption | decide); simp only [List.reverse_cons, List.reverse_nil, List.nil_append, List.cons_append]
 repeat' first | apply zk | (apply zm; apply zn; simp only [go_sem, simprocAttr])
 exact hfr.trans (hfrv (fun p hp => by simp only [List.map_cons, List.map_nil, List.mem_cons, List.not_mem_nil, or_false] at hp; unfold zau; omega))
end Go.Proofs.YtbhoeanfnbkenaaGreatDoor
