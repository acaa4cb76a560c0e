import Derived.Test.YtbhoeanfnbkenaaGreatDoorY4
namespace Go.Proofs.YtbhoeanfnbkenaaGreatDoor
open Go.RowKit Go.WideMaps
set_option maxRecDepth 100000
set_option linter.unusedSimpArgs false
variable (Hy : World → Prop)
attribute [local irreducible] zU zY cwp z1 z6 lpQ z8 asQ bdQ bdY zab zac zad zaa
def zaT (i : Nat) : Prop := zau i ∨ (6400 ≤ i ∧ i < 6500)
def FrW (o o' : Nat → O) : Prop := ∀ i, ¬ zaT i → o' i = o i
theorem FrW.refl (o : Nat → O) : FrW o o := fun _ _ => rfl
theorem FrW.trans {o o1 o2 : Nat → O} (h : FrW o o1) (k : FrW o1 o2) : FrW o o2 := fun i hi => (k i hi).trans (h i hi)
theorem zmv {n : Nat} {F : Nat → A} {G : Nat → O} {ts : List (Nat × A)} {os : List (Nat × O)} (h : ∀ p ∈ os.map (·.1), zaT p) : FrW G (nf n F G ts os).o := fun _ hi => zaY fun p hp e => hi (e ▸ h p hp)
theorem FrV.w {o o' : Nat → O} (h : FrV o o') : FrW o o' := fun i hi => h i fun hv => hi (.inl hv)
theorem Mch.frW {c : Ci} {g : Nat} {o o' : Nat → O} (h : Mch c g o) (hf : FrW o o') : Mch c g o' := by
 obtain ⟨E, h1, h2⟩ := h
 exact ⟨E, (hf 6307 (by unfold zaT zau; omega)).trans h1, h2⟩
def zaU (l : List La) : List ByteArray := l.map (·.next)
def zbK (c : Ci) (v : List Bool) : List Bool := gvs c v c.outs
def zbB (c : Ci) (v : List Bool) : List Bool := gvs c v (zaU c.las)
set_option maxHeartbeats 16000000 in
theorem ziy (c : Ci) (hm : MayC c) (st ii : List Bool) (hs : st.length = c.las.length) (hi : ii.length = c.ins.length) {g : Nat} {o : Nat → O} (ho : Mch c g o) :
  Cm Tryz.prog Hy 32 [.ag (mA c g), .t (.sl (bl st)), .t (.sl (bl ii))] o fun rs o' => rs = [.t (.sl (bl (zbK c (zat c st ii)))), .t (.sl (bl (zbB c (zat c st ii))))] ∧ FrW o o' := by
 have hM := zdT
 have hks : zaS tt 9 = .str := rfl
 have hvs := fun (o : Nat → O) (h : Mch c g o) => zhP Hy c hm st ii hs hi h
 obtain ⟨⟨h200, ho200⟩, hg8⟩ := zcS hm
 have hmay := hm.may
 have hlook : ∀ Em, NtM Em (z2 c) (z2 c).length → ∀ s ∈ z2 c, zam Em (.s s) = some (.t (.i .i64 (plN c s))) ∧ plN c s < (z2 c).length := fun Em hEm s h => by
  have h1 := (zes hmay h).1
  have h2 := (List.getElem?_eq_some_iff.1 h1).1
  exact ⟨hEm _ s h2 h1, h2⟩
 rw [zb6] at hlook
 have hsz := zeW ((zct c).2 hm)
 have huo : ∀ s ∈ c.outs, s ∈ z2 c := fun s h => hm.used s (List.mem_append_left _ h)
 have hul : ∀ x ∈ c.las, x.next ∈ z2 c := fun x h => hm.used x.next (List.mem_append_right _ (List.mem_append_left _ (List.mem_map.2 ⟨x, h, rfl⟩)))
 have hvl : (zat c st ii).length = ii.length + st.length + c.gts.length := zet c st ii _
 have hfrw : ∀ {n : Nat} {F : Nat → A} {G : Nat → O} {ts : List (Nat × A)} {os : List (Nat × O)}, (∀ p ∈ os.map (·.1), zaT p) → FrW G (nf n F G ts os).o := zmv
 unfold zbK zbB
 generalize zat c st ii = V at *
 unfold mA at *
 generalize hL : (zZ c.gts).1 = L at *
 obtain ⟨Em, hE0, hEm⟩ := ho
 replace hlook := hlook Em (by rw [← zb6]; exact hEm)
 have hnl : (zaU c.las).length = c.las.length := List.length_map _
 refine zax (cls := fun d => 6400 + d) zB zD Tryz.func32 rfl (by decide) (Nat.le_of_ble_eq_true rfl) ?_
 rw [show Tryz.f32.ntmps = 58 from rfl, zC]
 simp only [List.zipIdx_cons, List.zipIdx_nil, List.map_cons, List.map_nil, Nat.reduceAdd]
 apply zg
 repeat' first | refine zf rfl fun K E hK hE => ?_ | (refine za fun κ η => ?_; simp only [go_sem, simprocAttr]; refine η _ ?_; clear η κ) | (refine zd (hK _ ?_); clear hE hK E K) | apply zb
 apply zg
 repeat' first | refine zf rfl fun K E hK hE => ?_ | (refine za fun κ η => ?_; simp only [go_sem, simprocAttr]; refine η _ ?_; clear η κ)
 refine zaj fun κ η => ?_; simp only [go_sem, simprocAttr]; refine ⟨_, hvs _ ⟨Em, hE0, hEm⟩, ?_⟩; rintro _ o2 ⟨rfl, hF⟩; simp only [go_sem, simprocAttr]; refine η _ ?_; clear η κ
 have b3 : o2 6403 = ⟨(o 6403).gen + 1, .cells 58 [.t (.sl (sR c.ins)), .t (.sl (sR c.outs)), .t (.sl (lsR c.las)), .t (.sl (gsR c.gts)), .row 6307 g, .t (.sl (iR (zaf L)))]⟩ := (hF 6403 (by unfold zau; omega)).trans rfl
 have b7 : o2 6307 = ⟨g, .map .str Em⟩ := (hF 6307 (by unfold zau; omega)).trans hE0
 have hfr : FrW o o2 := FrW.trans (hfrw (fun p hp => by simp only [List.map_cons, List.map_nil, List.mem_cons, List.not_mem_nil, or_false] at hp; unfold zaT zau; omega)) hF.w
 clear hF hvs hE0
 repeat' first | (refine za fun κ η => ?_; simp only [go_sem, simprocAttr]; refine η _ ?_; clear η κ) | (refine zd (hK _ ?_); clear hE hK E K) | apply zb
 refine zcv (fun s => ∃ F G0, s = nf 58 F G0 [(3, .ptr 6403 ((o 6403).gen + 1) 0), (6, .t (.sl (bl (gvs c V c.outs)))), (7, .nilS), (8, .t (.sl (bl V)))] [] ∧ G0 6307 = ⟨g, .map .str Em⟩ ∧ G0 6403 = ⟨(o 6403).gen + 1, .cells 58 [.t (.sl (sR c.ins)), .t (.sl (sR c.outs)), .t (.sl (lsR c.las)), .t (.sl (gsR c.gts)), .row 6307 g, .t (.sl (iR (zaf L)))]⟩ ∧ FrW o G0) ?_ ?_
 rotate_left
 ·intro N hN
  repeat' first | apply zg | apply zj | refine zf rfl fun K E hK hE => ?_ | (refine za fun κ η => ?_; simp only [go_sem, simprocAttr, b3]; (repeat refine ⟨by omega, ?_⟩); refine η _ ?_; clear η κ) | (refine zd (hK _ ?_); clear hE hK E K) | apply zb
  refine zW (fun m s' => ∃ p : Nat, m = c.outs.length - p ∧ p ≤ c.outs.length ∧ ∃ F G0 yy, s' = nf 58 F G0 [(3, .ptr 6403 ((o 6403).gen + 1) 0), (6, yy), (7, .nilS), (8, .t (.sl (bl V))), (19, .t (.sl (sR c.outs))), (20, .t (.i .i64 c.outs.length)), (21, .t (.i .i64 p))] [] ∧ Acc G0 6434 4 1 (bl (gvs c V (c.outs.take p))) yy ∧ G0 6307 = ⟨g, .map .str Em⟩ ∧ G0 6403 = ⟨(o 6403).gen + 1, .cells 58 [.t (.sl (sR c.ins)), .t (.sl (sR c.outs)), .t (.sl (lsR c.las)), .t (.sl (gsR c.gts)), .row 6307 g, .t (.sl (iR (zaf L)))]⟩ ∧ FrW o G0) c.outs.length ?_ ?_
  ·exact ⟨0, by omega, by omega, _, _, _, zp rfl ⟨rfl, rfl, rfl, rfl, rfl, rfl, rfl, trivial⟩ trivial, .inl ⟨rfl, rfl⟩, b7, b3, hfr⟩
  clear b3 b7 hfr
  rintro m s' ⟨p, rfl, hp, F, G0, yy, rfl, hy, b7, b3, hfr⟩
  have hlen : (bl (gvs c V (c.outs.take p))).length ≤ 1000 := by rw [zaX, zb0, List.length_take]; omega
  by_cases hdp : p < c.outs.length
  ·have hd2 : ((p : Int) < c.outs.length) = True := eq_true (by omega)
   obtain ⟨s, hs3⟩ : ∃ s, c.outs[p]? = some s := ⟨_, List.getElem?_eq_getElem hdp⟩
   have hs' := za5 hs3
   have hsu := huo s (List.mem_of_getElem? hs3)
   obtain ⟨hget, hpl⟩ := hlook s hsu
   have hzs := hsz s hsu
   obtain ⟨x, hx⟩ : ∃ x, V[plN c s]? = some x := ⟨_, List.getElem?_eq_getElem (by omega)⟩
   have hx' := zbM hx
   have hsn : bl (gvs c V (c.outs.take (p + 1))) = bl (gvs c V (c.outs.take p)) ++ [[.b x]] := by
    rw [zdd hs3, zbV, List.getD_eq_getElem?_getD, hx]
    rfl
   generalize bl (gvs c V (c.outs.take p)) = rw0 at hsn hlen hy
   rcases hy with ⟨y0, rfl⟩ | ⟨q', rfl, hr2⟩
   ·rw [y0] at hsn
    repeat' first | apply zg | apply zj | refine zf rfl fun K E hK hE => ?_ | (refine za fun κ η => ?_; simp only [go_sem, simprocAttr, hd2, hs', b3, b7, hks, Ky.ok, hget, hx']; (repeat refine ⟨by omega, ?_⟩); refine η _ ?_; clear η κ) | (refine zd (hK _ ?_); clear hE hK E K) | apply zb | refine zh true rfl (fun _ => ?_) (fun h => (by cases h)) | apply zq | apply zi | apply zs
    exact ⟨c.outs.length - (p + 1), by omega, p + 1, rfl, by omega, _, _, _, zp rfl ⟨rfl, rfl, rfl, rfl, rfl, rfl, rfl, trivial⟩ trivial, .inr ⟨_, rfl, by rw [hsn]; rfl⟩, b7, b3, hfr.trans (hfrw (fun p hp => by simp only [List.map_cons, List.map_nil, List.mem_cons, List.not_mem_nil, or_false] at hp; unfold zaT zau; omega))⟩
   ·repeat' first | apply zg | apply zj | refine zf rfl fun K E hK hE => ?_ | (refine za fun κ η => ?_; simp only [go_sem, simprocAttr, hd2, hs', b3, b7, hks, Ky.ok, hget, hx', hr2]; (repeat refine ⟨by omega, ?_⟩); refine η _ ?_; clear η κ) | (refine zd (hK _ ?_); clear hE hK E K) | apply zb | refine zh true rfl (fun _ => ?_) (fun h => (by cases h)) | apply zq | apply zi | apply zs
    exact ⟨c.outs.length - (p + 1), by omega, p + 1, rfl, by omega, _, _, _, zp rfl ⟨rfl, rfl, rfl, rfl, rfl, rfl, rfl, trivial⟩ trivial, .inr ⟨_, rfl, by rw [hsn]; rfl⟩, b7, b3, hfr.trans (hfrw (fun p hp => by simp only [List.map_cons, List.map_nil, List.mem_cons, List.not_mem_nil, or_false] at hp; unfold zaT zau; omega))⟩
  have hd2 : ((p : Int) < c.outs.length) = False := eq_false (by omega)
  rw [List.take_of_length_le (by omega)] at hy
  rcases hy with ⟨y0, rfl⟩ | ⟨q', rfl, hr2⟩
  ·skip
   repeat' first | apply zg | refine zf rfl fun K E hK hE => ?_ | (refine za fun κ η => ?_; simp only [go_sem, simprocAttr, hd2]; refine η _ ?_; clear η κ) | (refine zd (hK _ ?_); clear hE hK E K)
   apply zb
   repeat' first | apply zg | refine zh false rfl (fun h => (by cases h)) fun _ => ?_ | apply zt | apply zu | apply zw | apply zx
   refine zby 6 (by decide) (t0 := ?zt1) (up0 := ?zu1) ?zf1 ?zh1; (case zf1 => simp only [go_sem, simprocAttr]; (repeat' apply And.intro) <;> first | rfl | assumption | decide); simp only [List.reverse_cons, List.reverse_nil, List.nil_append, List.cons_append]
   exact hN _ ⟨_, _, zp rfl ⟨rfl, by rw [y0]; rfl, rfl, rfl, trivial⟩ trivial, b7, b3, hfr⟩
  ·skip
   repeat' first | apply zg | refine zf rfl fun K E hK hE => ?_ | (refine za fun κ η => ?_; simp only [go_sem, simprocAttr, hd2]; refine η _ ?_; clear η κ) | (refine zd (hK _ ?_); clear hE hK E K)
   apply zb
   repeat' first | apply zg | refine zh false rfl (fun h => (by cases h)) fun _ => ?_ | apply zt | apply zu | apply zw | apply zx
   refine zby 6 (by decide) (t0 := ?zt2) (up0 := ?zu2) ?zf2 ?zh2; (case zf2 => simp only [go_sem, simprocAttr, hr2]; (repeat' apply And.intro) <;> first | rfl | assumption | decide); simp only [List.reverse_cons, List.reverse_nil, List.nil_append, List.cons_append]
   exact hN _ ⟨_, _, zp rfl ⟨rfl, rfl, rfl, rfl, trivial⟩ trivial, b7, b3, hfr.trans (hfrw (fun p hp => by simp only [List.map_cons, List.map_nil, List.mem_cons, List.not_mem_nil, or_false] at hp; unfold zaT zau; omega))⟩
 clear b3 b7 hfr
 generalize gvs c V c.outs = OV at *
 rintro s ⟨F, G0, rfl, b7, b3, hfr⟩
 refine zcv (fun s => ∃ F G0, s = nf 58 F G0 [(3, .ptr 6403 ((o 6403).gen + 1) 0), (6, .t (.sl (bl OV))), (7, .t (.sl (bl (gvs c V (zaU c.las))))), (8, .t (.sl (bl V)))] [] ∧ G0 6307 = ⟨g, .map .str Em⟩ ∧ G0 6403 = ⟨(o 6403).gen + 1, .cells 58 [.t (.sl (sR c.ins)), .t (.sl (sR c.outs)), .t (.sl (lsR c.las)), .t (.sl (gsR c.gts)), .row 6307 g, .t (.sl (iR (zaf L)))]⟩ ∧ FrW o G0) ?_ ?_
 rotate_left
 ·intro N hN
  repeat' first | apply zg | apply zj | refine zf rfl fun K E hK hE => ?_ | (refine za fun κ η => ?_; simp only [go_sem, simprocAttr, b3]; (repeat refine ⟨by omega, ?_⟩); refine η _ ?_; clear η κ) | (refine zd (hK _ ?_); clear hE hK E K) | apply zb
  refine zW (fun m s' => ∃ p : Nat, m = c.las.length - p ∧ p ≤ c.las.length ∧ ∃ F G0 yy, s' = nf 58 F G0 [(3, .ptr 6403 ((o 6403).gen + 1) 0), (6, .t (.sl (bl OV))), (7, yy), (8, .t (.sl (bl V))), (38, .t (.sl (lsR c.las))), (39, .t (.i .i64 c.las.length)), (40, .t (.i .i64 p))] [] ∧ Acc G0 6454 4 1 (bl (gvs c V ((zaU c.las).take p))) yy ∧ G0 6307 = ⟨g, .map .str Em⟩ ∧ G0 6403 = ⟨(o 6403).gen + 1, .cells 58 [.t (.sl (sR c.ins)), .t (.sl (sR c.outs)), .t (.sl (lsR c.las)), .t (.sl (gsR c.gts)), .row 6307 g, .t (.sl (iR (zaf L)))]⟩ ∧ FrW o G0) c.las.length ?_ ?_
  ·exact ⟨0, by omega, by omega, _, _, _, zp rfl ⟨rfl, rfl, rfl, rfl, rfl, rfl, rfl, trivial⟩ trivial, .inl ⟨rfl, rfl⟩, b7, b3, hfr⟩
  clear b3 b7 hfr
  rintro m s' ⟨p, rfl, hp, F, G0, yy, rfl, hy, b7, b3, hfr⟩
  have hlen : (bl (gvs c V ((zaU c.las).take p))).length ≤ 1000 := by rw [zaX, zb0, List.length_take]; omega
  by_cases hdp : p < c.las.length
  ·have hd2 : ((p : Int) < c.las.length) = True := eq_true (by omega)
   obtain ⟨xl, hs4⟩ : ∃ s, c.las[p]? = some s := ⟨_, List.getElem?_eq_getElem hdp⟩
   have hs' := zbv hs4
   have hsu := hul xl (List.mem_of_getElem? hs4)
   have hs3 : (zaU c.las)[p]? = some xl.next := by unfold zaU; rw [List.getElem?_map, hs4]; rfl
   generalize hsx : xl.next = s at *
   obtain ⟨hget, hpl⟩ := hlook s hsu
   have hzs := hsz s hsu
   obtain ⟨x, hx⟩ : ∃ x, V[plN c s]? = some x := ⟨_, List.getElem?_eq_getElem (by omega)⟩
   have hx' := zbM hx
   have hsn : bl (gvs c V ((zaU c.las).take (p + 1))) = bl (gvs c V ((zaU c.las).take p)) ++ [[.b x]] := by
    rw [zdd hs3, zbV, List.getD_eq_getElem?_getD, hx]
    rfl
   generalize bl (gvs c V ((zaU c.las).take p)) = rw0 at hsn hlen hy
   rcases hy with ⟨y0, rfl⟩ | ⟨q', rfl, hr2⟩
   ·rw [y0] at hsn
    repeat' first | apply zg | apply zj | refine zf rfl fun K E hK hE => ?_ | (refine za fun κ η => ?_; simp only [go_sem, simprocAttr, hd2, hs', b3, b7, hks, Ky.ok, hget, hx']; (repeat refine ⟨by omega, ?_⟩); refine η _ ?_; clear η κ) | (refine zd (hK _ ?_); clear hE hK E K) | apply zb | refine zh true rfl (fun _ => ?_) (fun h => (by cases h)) | apply zq | apply zi | apply zs
    exact ⟨c.las.length - (p + 1), by omega, p + 1, rfl, by omega, _, _, _, zp rfl ⟨rfl, rfl, rfl, rfl, rfl, rfl, rfl, trivial⟩ trivial, .inr ⟨_, rfl, by rw [hsn]; rfl⟩, b7, b3, hfr.trans (hfrw (fun p hp => by simp only [List.map_cons, List.map_nil, List.mem_cons, List.not_mem_nil, or_false] at hp; unfold zaT zau; omega))⟩
   ·repeat' first | apply zg | apply zj | refine zf rfl fun K E hK hE => ?_ | (refine za fun κ η => ?_; simp only [go_sem, simprocAttr, hd2, hs', b3, b7, hks, Ky.ok, hget, hx', hr2]; (repeat refine ⟨by omega, ?_⟩); refine η _ ?_; clear η κ) | (refine zd (hK _ ?_); clear hE hK E K) | apply zb | refine zh true rfl (fun _ => ?_) (fun h => (by cases h)) | apply zq | apply zi | apply zs
    exact ⟨c.las.length - (p + 1), by omega, p + 1, rfl, by omega, _, _, _, zp rfl ⟨rfl, rfl, rfl, rfl, rfl, rfl, rfl, trivial⟩ trivial, .inr ⟨_, rfl, by rw [hsn]; rfl⟩, b7, b3, hfr.trans (hfrw (fun p hp => by simp only [List.map_cons, List.map_nil, List.mem_cons, List.not_mem_nil, or_false] at hp; unfold zaT zau; omega))⟩
  have hd2 : ((p : Int) < c.las.length) = False := eq_false (by omega)
  rw [List.take_of_length_le (by rw [hnl]; omega)] at hy
  rcases hy with ⟨y0, rfl⟩ | ⟨q', rfl, hr2⟩
  ·skip
   repeat' first | apply zg | refine zf rfl fun K E hK hE => ?_ | (refine za fun κ η => ?_; simp only [go_sem, simprocAttr, hd2]; refine η _ ?_; clear η κ) | (refine zd (hK _ ?_); clear hE hK E K)
   apply zb
   repeat' first | apply zg | refine zh false rfl (fun h => (by cases h)) fun _ => ?_ | apply zt | apply zu | apply zw | apply zx
   refine zby 7 (by decide) (t0 := ?zt3) (up0 := ?zu3) ?zf3 ?zh3; (case zf3 => simp only [go_sem, simprocAttr]; (repeat' apply And.intro) <;> first | rfl | assumption | decide); simp only [List.reverse_cons, List.reverse_nil, List.nil_append, List.cons_append]
   exact hN _ ⟨_, _, zp rfl ⟨rfl, rfl, by rw [y0]; rfl, rfl, trivial⟩ trivial, b7, b3, hfr⟩
  ·skip
   repeat' first | apply zg | refine zf rfl fun K E hK hE => ?_ | (refine za fun κ η => ?_; simp only [go_sem, simprocAttr, hd2]; refine η _ ?_; clear η κ) | (refine zd (hK _ ?_); clear hE hK E K)
   apply zb
   repeat' first | apply zg | refine zh false rfl (fun h => (by cases h)) fun _ => ?_ | apply zt | apply zu | apply zw | apply zx
   refine zby 7 (by decide) (t0 := ?zt4) (up0 := ?zu4) ?zf4 ?zh4; (case zf4 => simp only [go_sem, simprocAttr, hr2]; (repeat' apply And.intro) <;> first | rfl | assumption | decide); simp only [List.reverse_cons, List.reverse_nil, List.nil_append, List.cons_append]
   exact hN _ ⟨_, _, zp rfl ⟨rfl, rfl, rfl, rfl, trivial⟩ trivial, b7, b3, hfr.trans (hfrw (fun p hp => by simp only [List.map_cons, List.map_nil, List.mem_cons, List.not_mem_nil, or_false] at hp; unfold zaT zau; omega))⟩
 clear b3 b7 hfr
 rintro s ⟨F, G0, rfl, b7, b3, hfr⟩
 repeat' first | apply zg | refine zf rfl fun K E hK hE => ?_ | (refine za fun κ η => ?_; simp only [go_sem, simprocAttr]; refine η _ ?_; clear η κ) | (refine zd (hK _ ?_); clear hE hK E K) | apply zb | apply zk | (apply zm; apply zn; simp only [go_sem, simprocAttr])
 exact hfr
end Go.Proofs.YtbhoeanfnbkenaaGreatDoor
