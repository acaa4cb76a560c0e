import Derived.Test.YtbhoeanfnbkenaaGreatDoorY2
import Derived.Test.YtbhoeanfnbkenaaGreatDoorR40
import Derived.Test.YtbhoeanfnbkenaaGreatDoorV4
import Derived.Test.YtbhoeanfnbkenaaGreatDoorY6
import Derived.Test.YtbhoeanfnbkenaaGreatDoorY12
namespace Go.Proofs.YtbhoeanfnbkenaaGreatDoor
open Go.RowKit Go.WideMaps
set_option maxRecDepth 100000
set_option linter.unusedSimpArgs false
variable (Hy : World → Prop)
attribute [local irreducible] zU zY cwp z1 z6 lpQ z8 asQ bdQ bdY zab zac zad zaa
theorem zgp (c : Ci) (hr : CRoom c) (hz : CSz c) : Ct Tryz.prog Hy 26 [.ag (cE c)] [.b (decide ((zaw c).1 = 0))] := by
 have hck := zmu Hy c hr hz
 generalize (zaw c).1 = e at *
 generalize (zaw c).2 = s at *
 obtain ⟨ins, outs, las, gts⟩ := c
 simp only [cE] at hck ⊢
 refine zI (cls := _root_.id) zB zD Tryz.func26 rfl (by decide) (Nat.le_of_ble_eq_true rfl) ?_
 rw [show Tryz.f26.ntmps = 12 from rfl, zC]
 simp only [List.zipIdx_cons, List.zipIdx_nil, List.map_cons, List.map_nil, Nat.reduceAdd]
 repeat' first | apply zg | apply zj | refine zf rfl fun K E hK hE => ?_ | refine zG rfl (by kernel_rfl) fun K E hK hE => ?_ | ((first | refine za fun κ η => ?_ | refine zo rfl fun κ η => ?_ | refine zr (by kernel_rfl) fun κ η => ?_ | refine zK (by kernel_rfl) rfl fun κ η => ?_); simp only [go_sem, simprocAttr]; (repeat refine ⟨by (first | omega | assumption | exact ⟨_, rfl⟩ | exact ⟨_, rfl, rfl⟩), ?_⟩); refine η _ ?_; clear η κ) | (refine zd (hK _ ?_); clear hE hK E K) | apply zb | refine zh true rfl (fun _ => ?_) (fun h => (by cases h)) | refine zh false rfl (fun h => (by cases h)) fun _ => ?_ | (refine zH (hK _ ?_); clear hE hK E K) | apply zq | apply zi | apply zt | apply zk | apply zu | apply zw | refine zR rfl ?_ | apply zx | apply zy | apply zJ | apply zL | apply zs | apply zT | apply zX | apply zV | apply zM | apply zN | apply zO | ((first | apply zm | apply zQ); (first | apply zn | apply zS | apply zP); simp only [go_sem, simprocAttr])
 (first | refine za fun κ η => ?_ | refine zo rfl fun κ η => ?_ | refine zr (by kernel_rfl) fun κ η => ?_ | refine zK (by kernel_rfl) rfl fun κ η => ?_); simp only [go_sem, simprocAttr]; refine ⟨_, hck, ?_⟩; simp only [go_sem, simprocAttr]; refine η _ ?_; clear η κ
 repeat' first | apply zg | apply zj | refine zf rfl fun K E hK hE => ?_ | refine zG rfl (by kernel_rfl) fun K E hK hE => ?_ | ((first | refine za fun κ η => ?_ | refine zo rfl fun κ η => ?_ | refine zr (by kernel_rfl) fun κ η => ?_ | refine zK (by kernel_rfl) rfl fun κ η => ?_); simp only [go_sem, simprocAttr]; (repeat refine ⟨by (first | omega | assumption | exact ⟨_, rfl⟩ | exact ⟨_, rfl, rfl⟩), ?_⟩); refine η _ ?_; clear η κ) | (refine zd (hK _ ?_); clear hE hK E K) | apply zb | refine zh true rfl (fun _ => ?_) (fun h => (by cases h)) | refine zh false rfl (fun h => (by cases h)) fun _ => ?_ | (refine zH (hK _ ?_); clear hE hK E K) | apply zq | apply zi | apply zt | apply zk | apply zu | apply zw | refine zR rfl ?_ | apply zx | apply zy | apply zJ | apply zL | apply zs | apply zT | apply zX | apply zV | apply zM | apply zN | apply zO | ((first | apply zm | apply zQ); (first | apply zn | apply zS | apply zP); simp only [go_sem, simprocAttr])
end Go.Proofs.YtbhoeanfnbkenaaGreatDoor
namespace Go.Proofs.YtbhoeanfnbkenaaGreatDoor
open Go.RowKit Go.WideMaps
set_option maxRecDepth 100000
set_option linter.unusedSimpArgs false
variable (Hy : World → Prop)
attribute [local irreducible] zU zY cwp z1 z6 lpQ z8 asQ bdQ bdY zab zac zad zaa
set_option maxHeartbeats 16000000 in
theorem zmo (c : Ci) (st ii : List Bool) (hr : CRoom c) (hz : CSz c) : Ct Tryz.prog Hy 11 [.ag (cE c), .sl (bl st), .sl (bl ii)] [.sl (bl (zbr c st ii).1), .i .i64 (zbr c st ii).2] := by
 have hri := zgp Hy c hr hz
 by_cases h0 : (zaw c).1 = 0
 rotate_left
 ·rw [show zbr c st ii = ([], 1) from if_neg h0]
  rw [decide_eq_false h0] at hri
  obtain ⟨ins, outs, las, gts⟩ := c
  simp only [cE] at hri ⊢
  refine zI (cls := _root_.id) zB zD Tryz.func11 rfl (by decide) (Nat.le_of_ble_eq_true rfl) ?_
  rw [show Tryz.f11.ntmps = 109 from rfl, zC]
  simp only [List.zipIdx_cons, List.zipIdx_nil, List.map_cons, List.map_nil, Nat.reduceAdd]
  repeat' first | apply zg | apply zj | refine zf rfl fun K E hK hE => ?_ | refine zG rfl (by kernel_rfl) fun K E hK hE => ?_ | ((first | refine za fun κ η => ?_ | refine zo rfl fun κ η => ?_ | refine zr (by kernel_rfl) fun κ η => ?_ | refine zK (by kernel_rfl) rfl fun κ η => ?_); simp only [go_sem, simprocAttr]; (repeat refine ⟨by (first | omega | assumption | exact ⟨_, rfl⟩ | exact ⟨_, rfl, rfl⟩), ?_⟩); refine η _ ?_; clear η κ) | (refine zd (hK _ ?_); clear hE hK E K) | apply zb | refine zh true rfl (fun _ => ?_) (fun h => (by cases h)) | refine zh false rfl (fun h => (by cases h)) fun _ => ?_ | (refine zH (hK _ ?_); clear hE hK E K) | apply zq | apply zi | apply zt | apply zk | apply zu | apply zw | refine zR rfl ?_ | apply zx | apply zy | apply zJ | apply zL | apply zs | apply zT | apply zX | apply zV | apply zM | apply zN | apply zO | ((first | apply zm | apply zQ); (first | apply zn | apply zS | apply zP); simp only [go_sem, simprocAttr])
  (first | refine za fun κ η => ?_ | refine zo rfl fun κ η => ?_ | refine zr (by kernel_rfl) fun κ η => ?_ | refine zK (by kernel_rfl) rfl fun κ η => ?_); simp only [go_sem, simprocAttr]; refine ⟨_, hri, ?_⟩; simp only [go_sem, simprocAttr]; refine η _ ?_; clear η κ
  repeat' first | apply zg | apply zj | refine zf rfl fun K E hK hE => ?_ | refine zG rfl (by kernel_rfl) fun K E hK hE => ?_ | ((first | refine za fun κ η => ?_ | refine zo rfl fun κ η => ?_ | refine zr (by kernel_rfl) fun κ η => ?_ | refine zK (by kernel_rfl) rfl fun κ η => ?_); simp only [go_sem, simprocAttr]; (repeat refine ⟨by (first | omega | assumption | exact ⟨_, rfl⟩ | exact ⟨_, rfl, rfl⟩), ?_⟩); refine η _ ?_; clear η κ) | (refine zd (hK _ ?_); clear hE hK E K) | apply zb | refine zh true rfl (fun _ => ?_) (fun h => (by cases h)) | refine zh false rfl (fun h => (by cases h)) fun _ => ?_ | (refine zH (hK _ ?_); clear hE hK E K) | apply zq | apply zi | apply zt | apply zk | apply zu | apply zw | refine zR rfl ?_ | apply zx | apply zy | apply zJ | apply zL | apply zs | apply zT | apply zX | apply zV | apply zM | apply zN | apply zO | ((first | apply zm | apply zQ); (first | apply zn | apply zS | apply zP); simp only [go_sem, simprocAttr])
  rfl
 rw [decide_eq_true h0] at hri
 have hbs := zaX st
 have hbi := zaX ii
 by_cases hs : st.length = c.las.length
 rotate_left
 ·rw [show zbr c st ii = ([], 11) from (if_pos h0).trans (if_neg fun h => hs h.1)]
  have hs' : ((st.length : Int) = c.las.length) = False := eq_false (by omega)
  obtain ⟨ins, outs, las, gts⟩ := c
  simp only [cE] at hri hs' ⊢
  generalize bl st = B1 at *
  refine zI (cls := _root_.id) zB zD Tryz.func11 rfl (by decide) (Nat.le_of_ble_eq_true rfl) ?_
  rw [show Tryz.f11.ntmps = 109 from rfl, zC]
  simp only [List.zipIdx_cons, List.zipIdx_nil, List.map_cons, List.map_nil, Nat.reduceAdd]
  repeat' first | apply zg | apply zj | refine zf rfl fun K E hK hE => ?_ | refine zG rfl (by kernel_rfl) fun K E hK hE => ?_ | ((first | refine za fun κ η => ?_ | refine zo rfl fun κ η => ?_ | refine zr (by kernel_rfl) fun κ η => ?_ | refine zK (by kernel_rfl) rfl fun κ η => ?_); simp only [go_sem, simprocAttr]; (repeat refine ⟨by (first | omega | assumption | exact ⟨_, rfl⟩ | exact ⟨_, rfl, rfl⟩), ?_⟩); refine η _ ?_; clear η κ) | (refine zd (hK _ ?_); clear hE hK E K) | apply zb | refine zh true rfl (fun _ => ?_) (fun h => (by cases h)) | refine zh false rfl (fun h => (by cases h)) fun _ => ?_ | (refine zH (hK _ ?_); clear hE hK E K) | apply zq | apply zi | apply zt | apply zk | apply zu | apply zw | refine zR rfl ?_ | apply zx | apply zy | apply zJ | apply zL | apply zs | apply zT | apply zX | apply zV | apply zM | apply zN | apply zO | ((first | apply zm | apply zQ); (first | apply zn | apply zS | apply zP); simp only [go_sem, simprocAttr])
  (first | refine za fun κ η => ?_ | refine zo rfl fun κ η => ?_ | refine zr (by kernel_rfl) fun κ η => ?_ | refine zK (by kernel_rfl) rfl fun κ η => ?_); simp only [go_sem, simprocAttr]; refine ⟨_, hri, ?_⟩; simp only [go_sem, simprocAttr]; refine η _ ?_; clear η κ
  repeat' first | apply zg | apply zj | refine zf rfl fun K E hK hE => ?_ | refine zG rfl (by kernel_rfl) fun K E hK hE => ?_ | ((first | refine za fun κ η => ?_ | refine zo rfl fun κ η => ?_ | refine zr (by kernel_rfl) fun κ η => ?_ | refine zK (by kernel_rfl) rfl fun κ η => ?_); simp only [go_sem, simprocAttr, hbs, hs']; (repeat refine ⟨by (first | omega | assumption | exact ⟨_, rfl⟩ | exact ⟨_, rfl, rfl⟩), ?_⟩); refine η _ ?_; clear η κ) | (refine zd (hK _ ?_); clear hE hK E K) | apply zb | refine zh true rfl (fun _ => ?_) (fun h => (by cases h)) | refine zh false rfl (fun h => (by cases h)) fun _ => ?_ | (refine zH (hK _ ?_); clear hE hK E K) | apply zq | apply zi | apply zt | apply zk | apply zu | apply zw | refine zR rfl ?_ | apply zx | apply zy | apply zJ | apply zL | apply zs | apply zT | apply zX | apply zV | apply zM | apply zN | apply zO | ((first | apply zm | apply zQ); (first | apply zn | apply zS | apply zP); simp only [go_sem, simprocAttr, hbs, hs'])
  rfl
 have hs' : ((st.length : Int) = c.las.length) = True := eq_true (by omega)
 by_cases hi : ii.length = c.ins.length
 rotate_left
 ·rw [show zbr c st ii = ([], 11) from (if_pos h0).trans (if_neg fun h => hi h.2)]
  have hi' : ((ii.length : Int) = c.ins.length) = False := eq_false (by omega)
  obtain ⟨ins, outs, las, gts⟩ := c
  simp only [cE] at hri hs' hi' ⊢
  generalize bl st = B1 at *
  generalize bl ii = B2 at *
  refine zI (cls := _root_.id) zB zD Tryz.func11 rfl (by decide) (Nat.le_of_ble_eq_true rfl) ?_
  rw [show Tryz.f11.ntmps = 109 from rfl, zC]
  simp only [List.zipIdx_cons, List.zipIdx_nil, List.map_cons, List.map_nil, Nat.reduceAdd]
  repeat' first | apply zg | apply zj | refine zf rfl fun K E hK hE => ?_ | refine zG rfl (by kernel_rfl) fun K E hK hE => ?_ | ((first | refine za fun κ η => ?_ | refine zo rfl fun κ η => ?_ | refine zr (by kernel_rfl) fun κ η => ?_ | refine zK (by kernel_rfl) rfl fun κ η => ?_); simp only [go_sem, simprocAttr]; (repeat refine ⟨by (first | omega | assumption | exact ⟨_, rfl⟩ | exact ⟨_, rfl, rfl⟩), ?_⟩); refine η _ ?_; clear η κ) | (refine zd (hK _ ?_); clear hE hK E K) | apply zb | refine zh true rfl (fun _ => ?_) (fun h => (by cases h)) | refine zh false rfl (fun h => (by cases h)) fun _ => ?_ | (refine zH (hK _ ?_); clear hE hK E K) | apply zq | apply zi | apply zt | apply zk | apply zu | apply zw | refine zR rfl ?_ | apply zx | apply zy | apply zJ | apply zL | apply zs | apply zT | apply zX | apply zV | apply zM | apply zN | apply zO | ((first | apply zm | apply zQ); (first | apply zn | apply zS | apply zP); simp only [go_sem, simprocAttr])
  (first | refine za fun κ η => ?_ | refine zo rfl fun κ η => ?_ | refine zr (by kernel_rfl) fun κ η => ?_ | refine zK (by kernel_rfl) rfl fun κ η => ?_); simp only [go_sem, simprocAttr]; refine ⟨_, hri, ?_⟩; simp only [go_sem, simprocAttr]; refine η _ ?_; clear η κ
  repeat' first | apply zg | apply zj | refine zf rfl fun K E hK hE => ?_ | refine zG rfl (by kernel_rfl) fun K E hK hE => ?_ | ((first | refine za fun κ η => ?_ | refine zo rfl fun κ η => ?_ | refine zr (by kernel_rfl) fun κ η => ?_ | refine zK (by kernel_rfl) rfl fun κ η => ?_); simp only [go_sem, simprocAttr, hbs, hs', hbi, hi']; (repeat refine ⟨by (first | omega | assumption | exact ⟨_, rfl⟩ | exact ⟨_, rfl, rfl⟩), ?_⟩); refine η _ ?_; clear η κ) | (refine zd (hK _ ?_); clear hE hK E K) | apply zb | refine zh true rfl (fun _ => ?_) (fun h => (by cases h)) | refine zh false rfl (fun h => (by cases h)) fun _ => ?_ | (refine zH (hK _ ?_); clear hE hK E K) | apply zq | apply zi | apply zt | apply zk | apply zu | apply zw | refine zR rfl ?_ | apply zx | apply zy | apply zJ | apply zL | apply zs | apply zT | apply zX | apply zV | apply zM | apply zN | apply zO | ((first | apply zm | apply zQ); (first | apply zn | apply zS | apply zP); simp only [go_sem, simprocAttr, hbs, hs', hbi, hi'])
  rfl
 have hi' : ((ii.length : Int) = c.ins.length) = True := eq_true (by omega)
 rw [show zbr c st ii = (zat c st ii, 0) from (if_pos h0).trans (if_pos ⟨hs, hi⟩)]
 have hm := ((zcL c).1 h0).1
 obtain ⟨⟨h200, _⟩, hg8⟩ := zcS hm
 have hmay := hm.may
 have hlook : ∀ s ∈ z2 c, plC c s = (plN c s : Nat) ∧ plN c s < (z2 c).length := fun s h => by
  have h1 := zes hmay h
  exact ⟨h1.2, (List.getElem?_eq_some_iff.1 h1.1).1⟩
 have hrp : ∀ s ∈ z2 c, Ct Tryz.prog Hy 30 [.ag (cE c), .s s] [.i .i64 (plN c s : Nat)] := fun s h => by
  have := zf7 Hy c s ⟨by omega, by have := hr.outs; omega, by omega, by omega⟩
  rwa [(hlook s h).1] at this
 rw [zb6] at hlook
 have hused : ∀ k, k < c.gts.length → ∀ s ∈ (gat c.gts k).ins, s ∈ z2 c := fun k hk s h => hm.used s (by
  unfold zbg
  exact List.mem_append_right _ (List.mem_append_right _ (List.mem_flatMap.2 ⟨_, zcK hk, h⟩)))
 have hlt := (zef c.gts).lt
 have hgB : ∀ k, k < c.gts.length → zaM (gat c.gts k) = true := fun k hk => hm.gts _ (zcK hk)
 have hg8' : ∀ k, k < c.gts.length → (gat c.gts k).ins.length ≤ 8 ∧ (gat c.gts k).rows.length ≤ 128 := fun k hk => hg8 _ (zcK hk)
 have hvs := fun m k => zhN (c := c) (st := st) (ii := ii) (m := m) (k := k)
 have hvl := fun m => zet c st ii m
 have hv0 : bl (zbz c st ii 0) = bl ii ++ bl st ++ List.replicate c.gts.length [.b false] := by
  show bl (ii ++ st ++ List.replicate c.gts.length false) = _
  rw [zbV, zbV, ziJ]
 have hLl : (zZ c.gts).1.length ≤ c.gts.length := by have := zg7 c.gts; omega
 have hso := zhQ Hy c hr hz
 rw [show zbD c = ((zZ c.gts).1, za0 c.gts) from if_pos ((zct c).2 hm)] at hso
 have hst1 := zcY st
 have hii1 := zcY ii
 unfold zat
 generalize za0 c.gts = NV at *
 generalize hL : (zZ c.gts).1 = L at *
 have hLc : (zaf L).length = L.length := zd0 L
 clear h0
 have hgt : ∀ k, k < c.gts.length → ∀ OF : List Bool, OF.length = (gat c.gts k).ins.length → Ct Tryz.prog Hy 31 [.ag [.s (gat c.gts k).name, .i .i64 (gat c.gts k).op, .sl (sR (gat c.gts k).ins), .sl (rR (gat c.gts k).rows), .b (gat c.gts k).off], .sl (bl OF)] [.b (zbp (gat c.gts k) OF), .i .i64 0] := fun k hk OF hO => by
  have h1 := hg8' k hk
  have hok : okG (gat c.gts k) OF = true := by unfold okG; rw [hgB k hk, decide_eq_true hO]; rfl
  have := zni Hy (gat c.gts k) OF (by omega) (by omega) (by omega) fun r hr => hz.rows _ (zcK hk) r hr
  rw [hok, Bool.true_and, if_pos rfl] at this
  exact this
 clear hz hmay hm
 obtain ⟨N0, hN0⟩ : ∃ n, n = c.ins.length + c.las.length := ⟨_, rfl⟩
 obtain ⟨G00, hG00⟩ : ∃ n, n = c.gts.length := ⟨_, rfl⟩
 obtain ⟨CE, hCE⟩ : ∃ x, x = [T.sl (sR c.ins), T.sl (sR c.outs), T.sl (lsR c.las), T.sl (gsR c.gts)] := ⟨_, rfl⟩
 have hlI : (bl ii ++ bl st).length = N0 := by rw [List.length_append, hbi, hbs, hs, hi, hN0]
 simp only [cE] at hri hso hrp ⊢
 refine zI (cls := _root_.id) zB zD Tryz.func11 rfl (by decide) (Nat.le_of_ble_eq_true rfl) ?_
 rw [show Tryz.f11.ntmps = 109 from rfl, zC]
 simp only [List.zipIdx_cons, List.zipIdx_nil, List.map_cons, List.map_nil, Nat.reduceAdd]
 repeat' first | apply zg | apply zj | refine zf rfl fun K E hK hE => ?_ | refine zG rfl (by kernel_rfl) fun K E hK hE => ?_ | ((first | refine za fun κ η => ?_ | refine zo rfl fun κ η => ?_ | refine zr (by kernel_rfl) fun κ η => ?_ | refine zK (by kernel_rfl) rfl fun κ η => ?_); simp only [go_sem, simprocAttr]; (repeat refine ⟨by (first | omega | assumption | exact ⟨_, rfl⟩ | exact ⟨_, rfl, rfl⟩), ?_⟩); refine η _ ?_; clear η κ) | (refine zd (hK _ ?_); clear hE hK E K) | apply zb | refine zh true rfl (fun _ => ?_) (fun h => (by cases h)) | refine zh false rfl (fun h => (by cases h)) fun _ => ?_ | (refine zH (hK _ ?_); clear hE hK E K) | apply zq | apply zi | apply zt | apply zk | apply zu | apply zw | refine zR rfl ?_ | apply zx | apply zy | apply zJ | apply zL | apply zs | apply zT | apply zX | apply zV | apply zM | apply zN | apply zO | ((first | apply zm | apply zQ); (first | apply zn | apply zS | apply zP); simp only [go_sem, simprocAttr])
 (first | refine za fun κ η => ?_ | refine zo rfl fun κ η => ?_ | refine zr (by kernel_rfl) fun κ η => ?_ | refine zK (by kernel_rfl) rfl fun κ η => ?_); simp only [go_sem, simprocAttr]; refine ⟨_, hri, ?_⟩; simp only [go_sem, simprocAttr]; refine η _ ?_; clear η κ
 repeat' first | apply zg | apply zj | refine zf rfl fun K E hK hE => ?_ | refine zG rfl (by kernel_rfl) fun K E hK hE => ?_ | ((first | refine za fun κ η => ?_ | refine zo rfl fun κ η => ?_ | refine zr (by kernel_rfl) fun κ η => ?_ | refine zK (by kernel_rfl) rfl fun κ η => ?_); simp only [go_sem, simprocAttr, hbs, hs', hbi, hi', hst1, hii1]; (repeat refine ⟨by (first | omega | assumption | exact ⟨_, rfl⟩ | exact ⟨_, rfl, rfl⟩), ?_⟩); refine η _ ?_; clear η κ) | (refine zd (hK _ ?_); clear hE hK E K) | apply zb | refine zh true rfl (fun _ => ?_) (fun h => (by cases h)) | refine zh false rfl (fun h => (by cases h)) fun _ => ?_ | (refine zH (hK _ ?_); clear hE hK E K) | apply zq | apply zi | apply zt | apply zk | apply zu | apply zw | refine zR rfl ?_ | apply zx | apply zy | apply zJ | apply zL | apply zs | apply zT | apply zX | apply zV | apply zM | apply zN | apply zO | ((first | apply zm | apply zQ); (first | apply zn | apply zS | apply zP); simp only [go_sem, simprocAttr, hbs, hs', hbi, hi', hst1, hii1])
 refine zW (fun m s' => ∃ k : Nat, m = c.gts.length - k ∧ k ≤ c.gts.length ∧ ∃ F G0 q, s' = nf 109 F G0 [(3, .ptr 3 1 0), (8, .row 38 q), (9, .t (.i .i64 (N0 : Nat))), (10, .t (.i .i64 k))] [] ∧ G0 3 = ⟨1, .cells 26 [.t (.sl (sR c.ins)), .t (.sl (sR c.outs)), .t (.sl (lsR c.las)), .t (.sl (gsR c.gts))]⟩ ∧ G0 38 = ⟨q, .row 4 1 (bl ii ++ bl st ++ List.replicate k [.b false])⟩) c.gts.length ?_ ?_
 ·refine ⟨0, by omega, by omega, _, _, _, zp rfl ⟨rfl, rfl, ?_, rfl, trivial⟩ trivial, rfl, ?_⟩
  ·rw [← hlI]; rfl
  ·rw [List.replicate_zero, List.append_nil]; rfl
 rintro m s' ⟨k, rfl, hk, F, G0, q, rfl, b3, b8⟩
 by_cases hd : k < c.gts.length
 ·have hd' : ((k : Int) < c.gts.length) = True := eq_true (by omega)
  have hst : bl ii ++ bl st ++ List.replicate (k + 1) [T.b false] = bl ii ++ bl st ++ List.replicate k [T.b false] ++ [[T.b false]] := by rw [List.replicate_succ', List.append_assoc _ _ [[T.b false]]]
  have hlen : (bl ii ++ bl st ++ List.replicate k [T.b false]).length ≤ 1000 := by rw [List.length_append, hlI, List.length_replicate]; omega
  generalize bl ii ++ bl st ++ List.replicate k [T.b false] = rw0 at *
  repeat' first | apply zg | apply zj | refine zf rfl fun K E hK hE => ?_ | refine zG rfl (by kernel_rfl) fun K E hK hE => ?_ | ((first | refine za fun κ η => ?_ | refine zo rfl fun κ η => ?_ | refine zr (by kernel_rfl) fun κ η => ?_ | refine zK (by kernel_rfl) rfl fun κ η => ?_); simp only [go_sem, simprocAttr, b3, hd', b8]; (repeat refine ⟨by (first | omega | assumption | exact ⟨_, rfl⟩ | exact ⟨_, rfl, rfl⟩), ?_⟩); refine η _ ?_; clear η κ) | (refine zd (hK _ ?_); clear hE hK E K) | apply zb | refine zh true rfl (fun _ => ?_) (fun h => (by cases h)) | refine zh false rfl (fun h => (by cases h)) fun _ => ?_ | (refine zH (hK _ ?_); clear hE hK E K) | apply zq | apply zi | apply zt | apply zk | apply zu | apply zw | refine zR rfl ?_ | apply zx | apply zy | apply zJ | apply zL | apply zs | apply zT | apply zX | apply zV | apply zM | apply zN | apply zO | ((first | apply zm | apply zQ); (first | apply zn | apply zS | apply zP); simp only [go_sem, simprocAttr, b3, hd', b8])
  exact ⟨c.gts.length - (k + 1), by omega, k + 1, rfl, by omega, _, _, _, zp rfl ⟨rfl, rfl, rfl, rfl, trivial⟩ trivial, b3, by rw [hst]; rfl⟩
 obtain rfl : k = c.gts.length := by omega
 rw [← hv0] at b8
 repeat' first | apply zg | apply zj | refine zf rfl fun K E hK hE => ?_ | refine zG rfl (by kernel_rfl) fun K E hK hE => ?_ | ((first | refine za fun κ η => ?_ | refine zo rfl fun κ η => ?_ | refine zr (by kernel_rfl) fun κ η => ?_ | refine zK (by kernel_rfl) rfl fun κ η => ?_); simp only [go_sem, simprocAttr, b3, Int.lt_irrefl]; (repeat refine ⟨by (first | omega | assumption | exact ⟨_, rfl⟩ | exact ⟨_, rfl, rfl⟩), ?_⟩); refine η _ ?_; clear η κ) | (refine zd (hK _ ?_); clear hE hK E K) | apply zb | refine zh true rfl (fun _ => ?_) (fun h => (by cases h)) | refine zh false rfl (fun h => (by cases h)) fun _ => ?_ | (refine zH (hK _ ?_); clear hE hK E K) | apply zq | apply zi | apply zt | apply zk | apply zu | apply zw | refine zR rfl ?_ | apply zx | apply zy | apply zJ | apply zL | apply zs | apply zT | apply zX | apply zV | apply zM | apply zN | apply zO | ((first | apply zm | apply zQ); (first | apply zn | apply zS | apply zP); simp only [go_sem, simprocAttr, b3, Int.lt_irrefl])
 (first | refine za fun κ η => ?_ | refine zo rfl fun κ η => ?_ | refine zr (by kernel_rfl) fun κ η => ?_ | refine zK (by kernel_rfl) rfl fun κ η => ?_); simp only [go_sem, simprocAttr, b3, b8]; refine ⟨_, hso, ?_⟩; simp only [go_sem, simprocAttr, b3, b8]; refine η _ ?_; clear η κ
 repeat' first | apply zg | apply zj | refine zf rfl fun K E hK hE => ?_ | refine zG rfl (by kernel_rfl) fun K E hK hE => ?_ | ((first | refine za fun κ η => ?_ | refine zo rfl fun κ η => ?_ | refine zr (by kernel_rfl) fun κ η => ?_ | refine zK (by kernel_rfl) rfl fun κ η => ?_); simp only [go_sem, simprocAttr]; (repeat refine ⟨by (first | omega | assumption | exact ⟨_, rfl⟩ | exact ⟨_, rfl, rfl⟩), ?_⟩); refine η _ ?_; clear η κ) | (refine zd (hK _ ?_); clear hE hK E K) | apply zb | refine zh true rfl (fun _ => ?_) (fun h => (by cases h)) | refine zh false rfl (fun h => (by cases h)) fun _ => ?_ | (refine zH (hK _ ?_); clear hE hK E K) | apply zq | apply zi | apply zt | apply zk | apply zu | apply zw | refine zR rfl ?_ | apply zx | apply zy | apply zJ | apply zL | apply zs | apply zT | apply zX | apply zV | apply zM | apply zN | apply zO | ((first | apply zm | apply zQ); (first | apply zn | apply zS | apply zP); simp only [go_sem, simprocAttr])
 refine zW (fun m s' => ∃ n : Nat, m = L.length - n ∧ n ≤ L.length ∧ ∃ F G0 q, s' = nf 109 F G0 [(3, .ptr 3 1 0), (8, .row 38 q), (9, .t (.i .i64 (N0 : Nat))), (11, .t (.sl (iR (zaf L)))), (13, .t (.i .i64 n))] [] ∧ G0 3 = ⟨1, .cells 26 [.t (.sl (sR c.ins)), .t (.sl (sR c.outs)), .t (.sl (lsR c.las)), .t (.sl (gsR c.gts))]⟩ ∧ G0 38 = ⟨q, .row 4 1 (bl (zbz c st ii n))⟩) L.length ?_ ?_
 ·exact ⟨0, by omega, by omega, _, _, _, zp rfl ⟨rfl, rfl, rfl, rfl, rfl, trivial⟩ trivial, b3, b8⟩
 clear b3 b8
 rintro m s' ⟨n, rfl, hn, F, G0, q, rfl, b3, b8⟩
 by_cases hdn : n < L.length
 ·have hd' : ((n : Int) < L.length) = True := eq_true (by omega)
  obtain ⟨k, hk⟩ : ∃ k, L[n]? = some k := ⟨_, List.getElem?_eq_getElem hdn⟩
  have hkl := hlt k (List.mem_of_getElem? hk)
  have hk' := zfS hk
  have hg' := zaQ (zfi hkl)
  have hvn := hvs n k hk
  have hvln := hvl n
  have hgt' := hgt k hkl
  obtain ⟨hq8, _⟩ := hg8' k hkl
  have husd := hused k hkl
  unfold zdc at hvn
  generalize hV2 : zbz c st ii (n + 1) = V2 at hvn
  generalize hV : zbz c st ii n = V at *
  generalize gat c.gts k = gg at *
  apply zg
  apply zg
  repeat' first | apply zj | refine zf rfl fun K E hK hE => ?_ | refine zG rfl (by kernel_rfl) fun K E hK hE => ?_ | ((first | refine za fun κ η => ?_ | refine zo rfl fun κ η => ?_ | refine zr (by kernel_rfl) fun κ η => ?_ | refine zK (by kernel_rfl) rfl fun κ η => ?_); simp only [go_sem, simprocAttr, hd']; (repeat refine ⟨by (first | omega | assumption | exact ⟨_, rfl⟩ | exact ⟨_, rfl, rfl⟩), ?_⟩); refine η _ ?_; clear η κ) | (refine zd (hK _ ?_); clear hE hK E K) | apply zb | refine zh true rfl (fun _ => ?_) (fun h => (by cases h)) | refine zh false rfl (fun h => (by cases h)) fun _ => ?_ | (refine zH (hK _ ?_); clear hE hK E K) | apply zq | apply zi | apply zt | apply zk | apply zu | apply zw | refine zR rfl ?_ | apply zx | apply zy | apply zJ | apply zL | apply zs | apply zT | apply zX | apply zV | apply zM | apply zN | apply zO | ((first | apply zm | apply zQ); (first | apply zn | apply zS | apply zP); simp only [go_sem, simprocAttr, hd'])
  repeat' first | apply zj | refine zf rfl fun K E hK hE => ?_ | refine zG rfl (by kernel_rfl) fun K E hK hE => ?_ | ((first | refine za fun κ η => ?_ | refine zo rfl fun κ η => ?_ | refine zr (by kernel_rfl) fun κ η => ?_ | refine zK (by kernel_rfl) rfl fun κ η => ?_); simp only [go_sem, simprocAttr]; (repeat refine ⟨by (first | omega | assumption | exact ⟨_, rfl⟩ | exact ⟨_, rfl, rfl⟩), ?_⟩); refine η _ ?_; clear η κ) | (refine zd (hK _ ?_); clear hE hK E K) | apply zb | refine zh true rfl (fun _ => ?_) (fun h => (by cases h)) | refine zh false rfl (fun h => (by cases h)) fun _ => ?_ | (refine zH (hK _ ?_); clear hE hK E K) | apply zq | apply zi | apply zt | apply zk | apply zu | apply zw | refine zR rfl ?_ | apply zx | apply zy | apply zJ | apply zL | apply zs | apply zT | apply zX | apply zV | apply zM | apply zN | apply zO | ((first | apply zm | apply zQ); (first | apply zn | apply zS | apply zP); simp only [go_sem, simprocAttr])
  apply zg
  repeat' first | apply zj | refine zf rfl fun K E hK hE => ?_ | refine zG rfl (by kernel_rfl) fun K E hK hE => ?_ | ((first | refine za fun κ η => ?_ | refine zo rfl fun κ η => ?_ | refine zr (by kernel_rfl) fun κ η => ?_ | refine zK (by kernel_rfl) rfl fun κ η => ?_); simp only [go_sem, simprocAttr]; (repeat refine ⟨by (first | omega | assumption | exact ⟨_, rfl⟩ | exact ⟨_, rfl, rfl⟩), ?_⟩); refine η _ ?_; clear η κ) | (refine zd (hK _ ?_); clear hE hK E K) | apply zb | refine zh true rfl (fun _ => ?_) (fun h => (by cases h)) | refine zh false rfl (fun h => (by cases h)) fun _ => ?_ | (refine zH (hK _ ?_); clear hE hK E K) | apply zq | apply zi | apply zt | apply zk | apply zu | apply zw | refine zR rfl ?_ | apply zx | apply zy | apply zJ | apply zL | apply zs | apply zT | apply zX | apply zV | apply zM | apply zN | apply zO | ((first | apply zm | apply zQ); (first | apply zn | apply zS | apply zP); simp only [go_sem, simprocAttr])
  apply zg
  repeat' first | apply zj | refine zf rfl fun K E hK hE => ?_ | refine zG rfl (by kernel_rfl) fun K E hK hE => ?_ | ((first | refine za fun κ η => ?_ | refine zo rfl fun κ η => ?_ | refine zr (by kernel_rfl) fun κ η => ?_ | refine zK (by kernel_rfl) rfl fun κ η => ?_); simp only [go_sem, simprocAttr, hk', b3, hg']; (repeat refine ⟨by (first | omega | assumption | exact ⟨_, rfl⟩ | exact ⟨_, rfl, rfl⟩), ?_⟩); refine η _ ?_; clear η κ) | (refine zd (hK _ ?_); clear hE hK E K) | apply zb | refine zh true rfl (fun _ => ?_) (fun h => (by cases h)) | refine zh false rfl (fun h => (by cases h)) fun _ => ?_ | (refine zH (hK _ ?_); clear hE hK E K) | apply zq | apply zi | apply zt | apply zk | apply zu | apply zw | refine zR rfl ?_ | apply zx | apply zy | apply zJ | apply zL | apply zs | apply zT | apply zX | apply zV | apply zM | apply zN | apply zO | ((first | apply zm | apply zQ); (first | apply zn | apply zS | apply zP); simp only [go_sem, simprocAttr, hk', b3, hg'])
  apply zg
  repeat' first | apply zj | refine zf rfl fun K E hK hE => ?_ | refine zG rfl (by kernel_rfl) fun K E hK hE => ?_ | ((first | refine za fun κ η => ?_ | refine zo rfl fun κ η => ?_ | refine zr (by kernel_rfl) fun κ η => ?_ | refine zK (by kernel_rfl) rfl fun κ η => ?_); simp only [go_sem, simprocAttr]; (repeat refine ⟨by (first | omega | assumption | exact ⟨_, rfl⟩ | exact ⟨_, rfl, rfl⟩), ?_⟩); refine η _ ?_; clear η κ) | (refine zd (hK _ ?_); clear hE hK E K) | apply zb | refine zh true rfl (fun _ => ?_) (fun h => (by cases h)) | refine zh false rfl (fun h => (by cases h)) fun _ => ?_ | (refine zH (hK _ ?_); clear hE hK E K) | apply zq | apply zi | apply zt | apply zk | apply zu | apply zw | refine zR rfl ?_ | apply zx | apply zy | apply zJ | apply zL | apply zs | apply zT | apply zX | apply zV | apply zM | apply zN | apply zO | ((first | apply zm | apply zQ); (first | apply zn | apply zS | apply zP); simp only [go_sem, simprocAttr])
  refine zcv (fun s => ∃ F G0 e, s = nf 109 F G0 [(3, .ptr 3 1 0), (8, .row 38 q), (9, .t (.i .i64 (N0 : Nat))), (11, .t (.sl (iR (zaf L)))), (13, .t (.i .i64 n)), (14, .ptr 14 e 0), (15, .t (.sl (bl (gvs c V gg.ins))))] [] ∧ G0 3 = ⟨1, .cells 26 [.t (.sl (sR c.ins)), .t (.sl (sR c.outs)), .t (.sl (lsR c.las)), .t (.sl (gsR c.gts))]⟩ ∧ G0 38 = ⟨q, .row 4 1 (bl V)⟩ ∧ G0 14 = ⟨e, .cells 47 [.t (.s gg.name), .t (.i .i64 gg.op), .t (.sl (sR gg.ins)), .t (.sl (rR gg.rows)), .t (.b gg.off)]⟩) ?_ ?_
  rotate_left
  ·intro N hN
   repeat' first | apply zg | apply zj | refine zf rfl fun K E hK hE => ?_ | refine zG rfl (by kernel_rfl) fun K E hK hE => ?_ | ((first | refine za fun κ η => ?_ | refine zo rfl fun κ η => ?_ | refine zr (by kernel_rfl) fun κ η => ?_ | refine zK (by kernel_rfl) rfl fun κ η => ?_); simp only [go_sem, simprocAttr]; (repeat refine ⟨by (first | omega | assumption | exact ⟨_, rfl⟩ | exact ⟨_, rfl, rfl⟩), ?_⟩); refine η _ ?_; clear η κ) | (refine zd (hK _ ?_); clear hE hK E K) | apply zb | refine zh true rfl (fun _ => ?_) (fun h => (by cases h)) | refine zh false rfl (fun h => (by cases h)) fun _ => ?_ | (refine zH (hK _ ?_); clear hE hK E K) | apply zq | apply zi | apply zt | apply zk | apply zu | apply zw | refine zR rfl ?_ | apply zx | apply zy | apply zJ | apply zL | apply zs | apply zT | apply zX | apply zV | apply zM | apply zN | apply zO | ((first | apply zm | apply zQ); (first | apply zn | apply zS | apply zP); simp only [go_sem, simprocAttr])
   refine zW (fun m s' => ∃ p : Nat, m = gg.ins.length - p ∧ p ≤ gg.ins.length ∧ ∃ F G0 e yy, s' = nf 109 F G0 [(3, .ptr 3 1 0), (8, .row 38 q), (9, .t (.i .i64 (N0 : Nat))), (11, .t (.sl (iR (zaf L)))), (13, .t (.i .i64 n)), (14, .ptr 14 e 0), (15, yy), (16, .t (.i .i64 p))] [] ∧ G0 3 = ⟨1, .cells 26 [.t (.sl (sR c.ins)), .t (.sl (sR c.outs)), .t (.sl (lsR c.las)), .t (.sl (gsR c.gts))]⟩ ∧ G0 38 = ⟨q, .row 4 1 (bl V)⟩ ∧ G0 14 = ⟨e, .cells 47 [.t (.s gg.name), .t (.i .i64 gg.op), .t (.sl (sR gg.ins)), .t (.sl (rR gg.rows)), .t (.b gg.off)]⟩ ∧ Acc G0 92 4 1 (bl (gvs c V (gg.ins.take p))) yy) gg.ins.length ?_ ?_
   ·exact ⟨0, by omega, by omega, _, _, _, _, zp rfl ⟨rfl, rfl, rfl, rfl, rfl, rfl, rfl, rfl, trivial⟩ trivial, b3, b8, rfl, .inl ⟨rfl, rfl⟩⟩
   clear b3 b8
   rintro m s' ⟨p, rfl, hp, F, G0, e, yy, rfl, b3, b8, b14, hy⟩
   have hlen : (bl (gvs c V (gg.ins.take p))).length ≤ 1000 := by rw [zaX, zb0, List.length_take]; omega
   by_cases hdp : p < gg.ins.length
   ·have hd2 : ((p : Int) < gg.ins.length) = True := eq_true (by omega)
    obtain ⟨s, hs3⟩ : ∃ s, gg.ins[p]? = some s := ⟨_, List.getElem?_eq_getElem hdp⟩
    have hs' := za5 hs3
    have hsu := husd s (List.mem_of_getElem? hs3)
    have hpl := hrp s hsu
    have hpv : plN c s < V.length := by have := (hlook s hsu).2; omega
    obtain ⟨x, hx⟩ : ∃ x, V[plN c s]? = some x := ⟨_, List.getElem?_eq_getElem hpv⟩
    have hx' := zbM hx
    have hsn : bl (gvs c V (gg.ins.take (p + 1))) = bl (gvs c V (gg.ins.take p)) ++ [[.b x]] := by
     rw [zdd hs3, zbV, List.getD_eq_getElem?_getD, hx]
     rfl
    generalize bl (gvs c V (gg.ins.take p)) = rw0 at hsn hlen hy
    rcases hy with ⟨y0, rfl⟩ | ⟨q', rfl, hr2⟩
    ·rw [y0] at hsn
     repeat' first | apply zg | apply zj | refine zf rfl fun K E hK hE => ?_ | refine zG rfl (by kernel_rfl) fun K E hK hE => ?_ | ((first | refine za fun κ η => ?_ | refine zo rfl fun κ η => ?_ | refine zr (by kernel_rfl) fun κ η => ?_ | refine zK (by kernel_rfl) rfl fun κ η => ?_); simp only [go_sem, simprocAttr, b3, b14, hd2, hs']; (repeat refine ⟨by (first | omega | assumption | exact ⟨_, rfl⟩ | exact ⟨_, rfl, rfl⟩), ?_⟩); refine η _ ?_; clear η κ) | (refine zd (hK _ ?_); clear hE hK E K) | apply zb | refine zh true rfl (fun _ => ?_) (fun h => (by cases h)) | refine zh false rfl (fun h => (by cases h)) fun _ => ?_ | (refine zH (hK _ ?_); clear hE hK E K) | apply zq | apply zi | apply zt | apply zk | apply zu | apply zw | refine zR rfl ?_ | apply zx | apply zy | apply zJ | apply zL | apply zs | apply zT | apply zX | apply zV | apply zM | apply zN | apply zO | ((first | apply zm | apply zQ); (first | apply zn | apply zS | apply zP); simp only [go_sem, simprocAttr, b3, b14, hd2, hs'])
     (first | refine za fun κ η => ?_ | refine zo rfl fun κ η => ?_ | refine zr (by kernel_rfl) fun κ η => ?_ | refine zK (by kernel_rfl) rfl fun κ η => ?_); simp only [go_sem, simprocAttr]; refine ⟨_, hpl, ?_⟩; simp only [go_sem, simprocAttr]; refine η _ ?_; clear η κ
     repeat' first | apply zg | apply zj | refine zf rfl fun K E hK hE => ?_ | refine zG rfl (by kernel_rfl) fun K E hK hE => ?_ | ((first | refine za fun κ η => ?_ | refine zo rfl fun κ η => ?_ | refine zr (by kernel_rfl) fun κ η => ?_ | refine zK (by kernel_rfl) rfl fun κ η => ?_); simp only [go_sem, simprocAttr, b3, b8, b14, hx', Int.toNat_natCast]; (repeat refine ⟨by (first | omega | assumption | exact ⟨_, rfl⟩ | exact ⟨_, rfl, rfl⟩), ?_⟩); refine η _ ?_; clear η κ) | (refine zd (hK _ ?_); clear hE hK E K) | apply zb | refine zh true rfl (fun _ => ?_) (fun h => (by cases h)) | refine zh false rfl (fun h => (by cases h)) fun _ => ?_ | (refine zH (hK _ ?_); clear hE hK E K) | apply zq | apply zi | apply zt | apply zk | apply zu | apply zw | refine zR rfl ?_ | apply zx | apply zy | apply zJ | apply zL | apply zs | apply zT | apply zX | apply zV | apply zM | apply zN | apply zO | ((first | apply zm | apply zQ); (first | apply zn | apply zS | apply zP); simp only [go_sem, simprocAttr, b3, b8, b14, hx', Int.toNat_natCast])
     exact ⟨gg.ins.length - (p + 1), by omega, p + 1, rfl, by omega, _, _, _, _, zp rfl ⟨rfl, rfl, rfl, rfl, rfl, rfl, rfl, rfl, trivial⟩ trivial, b3, b8, b14, .inr ⟨_, rfl, by rw [hsn]; rfl⟩⟩
    ·repeat' first | apply zg | apply zj | refine zf rfl fun K E hK hE => ?_ | refine zG rfl (by kernel_rfl) fun K E hK hE => ?_ | ((first | refine za fun κ η => ?_ | refine zo rfl fun κ η => ?_ | refine zr (by kernel_rfl) fun κ η => ?_ | refine zK (by kernel_rfl) rfl fun κ η => ?_); simp only [go_sem, simprocAttr, b3, b14, hd2, hs']; (repeat refine ⟨by (first | omega | assumption | exact ⟨_, rfl⟩ | exact ⟨_, rfl, rfl⟩), ?_⟩); refine η _ ?_; clear η κ) | (refine zd (hK _ ?_); clear hE hK E K) | apply zb | refine zh true rfl (fun _ => ?_) (fun h => (by cases h)) | refine zh false rfl (fun h => (by cases h)) fun _ => ?_ | (refine zH (hK _ ?_); clear hE hK E K) | apply zq | apply zi | apply zt | apply zk | apply zu | apply zw | refine zR rfl ?_ | apply zx | apply zy | apply zJ | apply zL | apply zs | apply zT | apply zX | apply zV | apply zM | apply zN | apply zO | ((first | apply zm | apply zQ); (first | apply zn | apply zS | apply zP); simp only [go_sem, simprocAttr, b3, b14, hd2, hs'])
     (first | refine za fun κ η => ?_ | refine zo rfl fun κ η => ?_ | refine zr (by kernel_rfl) fun κ η => ?_ | refine zK (by kernel_rfl) rfl fun κ η => ?_); simp only [go_sem, simprocAttr]; refine ⟨_, hpl, ?_⟩; simp only [go_sem, simprocAttr]; refine η _ ?_; clear η κ
     repeat' first | apply zg | apply zj | refine zf rfl fun K E hK hE => ?_ | refine zG rfl (by kernel_rfl) fun K E hK hE => ?_ | ((first | refine za fun κ η => ?_ | refine zo rfl fun κ η => ?_ | refine zr (by kernel_rfl) fun κ η => ?_ | refine zK (by kernel_rfl) rfl fun κ η => ?_); simp only [go_sem, simprocAttr, b3, b8, b14, hx', hr2, Int.toNat_natCast]; (repeat refine ⟨by (first | omega | assumption | exact ⟨_, rfl⟩ | exact ⟨_, rfl, rfl⟩), ?_⟩); refine η _ ?_; clear η κ) | (refine zd (hK _ ?_); clear hE hK E K) | apply zb | refine zh true rfl (fun _ => ?_) (fun h => (by cases h)) | refine zh false rfl (fun h => (by cases h)) fun _ => ?_ | (refine zH (hK _ ?_); clear hE hK E K) | apply zq | apply zi | apply zt | apply zk | apply zu | apply zw | refine zR rfl ?_ | apply zx | apply zy | apply zJ | apply zL | apply zs | apply zT | apply zX | apply zV | apply zM | apply zN | apply zO | ((first | apply zm | apply zQ); (first | apply zn | apply zS | apply zP); simp only [go_sem, simprocAttr, b3, b8, b14, hx', hr2, Int.toNat_natCast])
     exact ⟨gg.ins.length - (p + 1), by omega, p + 1, rfl, by omega, _, _, _, _, zp rfl ⟨rfl, rfl, rfl, rfl, rfl, rfl, rfl, rfl, trivial⟩ trivial, b3, b8, b14, .inr ⟨_, rfl, by rw [hsn]; rfl⟩⟩
   have hd2 : ((p : Int) < gg.ins.length) = False := eq_false (by omega)
   rw [List.take_of_length_le (by omega)] at hy
   rcases hy with ⟨y0, rfl⟩ | ⟨q', rfl, hr2⟩
   ·skip
    repeat' first | apply zg | apply zj | refine zf rfl fun K E hK hE => ?_ | refine zG rfl (by kernel_rfl) fun K E hK hE => ?_ | ((first | refine za fun κ η => ?_ | refine zo rfl fun κ η => ?_ | refine zr (by kernel_rfl) fun κ η => ?_ | refine zK (by kernel_rfl) rfl fun κ η => ?_); simp only [go_sem, simprocAttr, hd2, b14]; (repeat refine ⟨by (first | omega | assumption | exact ⟨_, rfl⟩ | exact ⟨_, rfl, rfl⟩), ?_⟩); refine η _ ?_; clear η κ) | (refine zd (hK _ ?_); clear hE hK E K) | refine zh true rfl (fun _ => ?_) (fun h => (by cases h)) | refine zh false rfl (fun h => (by cases h)) fun _ => ?_ | (refine zH (hK _ ?_); clear hE hK E K) | apply zq | apply zi | apply zt | apply zk | apply zu | apply zw | refine zR rfl ?_ | apply zx | apply zy | apply zJ | apply zL | apply zs | apply zT | apply zX | apply zV | apply zM | apply zN | apply zO | ((first | apply zm | apply zQ); (first | apply zn | apply zS | apply zP); simp only [go_sem, simprocAttr, hd2, b14])
    apply zb
    repeat' first | apply zg | apply zj | refine zf rfl fun K E hK hE => ?_ | refine zG rfl (by kernel_rfl) fun K E hK hE => ?_ | ((first | refine za fun κ η => ?_ | refine zo rfl fun κ η => ?_ | refine zr (by kernel_rfl) fun κ η => ?_ | refine zK (by kernel_rfl) rfl fun κ η => ?_); simp only [go_sem, simprocAttr]; (repeat refine ⟨by (first | omega | assumption | exact ⟨_, rfl⟩ | exact ⟨_, rfl, rfl⟩), ?_⟩); refine η _ ?_; clear η κ) | (refine zd (hK _ ?_); clear hE hK E K) | refine zh true rfl (fun _ => ?_) (fun h => (by cases h)) | refine zh false rfl (fun h => (by cases h)) fun _ => ?_ | (refine zH (hK _ ?_); clear hE hK E K) | apply zq | apply zi | apply zt | apply zk | apply zu | apply zw | refine zR rfl ?_ | apply zx | apply zy | apply zJ | apply zL | apply zs | apply zT | apply zX | apply zV | apply zM | apply zN | apply zO | ((first | apply zm | apply zQ); (first | apply zn | apply zS | apply zP); simp only [go_sem, simprocAttr])
    refine zby 15 (by decide) (t0 := ?zt1) (up0 := ?zu1) ?zf1 ?zh1; (case zf1 => simp only [go_sem, simprocAttr]; (repeat' apply And.intro) <;> first | rfl | assumption | decide); simp only [List.reverse_cons, List.reverse_nil, List.nil_append, List.cons_append]
    exact hN _ ⟨_, _, _, zp rfl ⟨rfl, rfl, rfl, rfl, rfl, rfl, by rw [y0]; rfl, trivial⟩ trivial, b3, b8, b14⟩
   ·skip
    repeat' first | apply zg | apply zj | refine zf rfl fun K E hK hE => ?_ | refine zG rfl (by kernel_rfl) fun K E hK hE => ?_ | ((first | refine za fun κ η => ?_ | refine zo rfl fun κ η => ?_ | refine zr (by kernel_rfl) fun κ η => ?_ | refine zK (by kernel_rfl) rfl fun κ η => ?_); simp only [go_sem, simprocAttr, hd2, b14]; (repeat refine ⟨by (first | omega | assumption | exact ⟨_, rfl⟩ | exact ⟨_, rfl, rfl⟩), ?_⟩); refine η _ ?_; clear η κ) | (refine zd (hK _ ?_); clear hE hK E K) | refine zh true rfl (fun _ => ?_) (fun h => (by cases h)) | refine zh false rfl (fun h => (by cases h)) fun _ => ?_ | (refine zH (hK _ ?_); clear hE hK E K) | apply zq | apply zi | apply zt | apply zk | apply zu | apply zw | refine zR rfl ?_ | apply zx | apply zy | apply zJ | apply zL | apply zs | apply zT | apply zX | apply zV | apply zM | apply zN | apply zO | ((first | apply zm | apply zQ); (first | apply zn | apply zS | apply zP); simp only [go_sem, simprocAttr, hd2, b14])
    apply zb
    repeat' first | apply zg | apply zj | refine zf rfl fun K E hK hE => ?_ | refine zG rfl (by kernel_rfl) fun K E hK hE => ?_ | ((first | refine za fun κ η => ?_ | refine zo rfl fun κ η => ?_ | refine zr (by kernel_rfl) fun κ η => ?_ | refine zK (by kernel_rfl) rfl fun κ η => ?_); simp only [go_sem, simprocAttr]; (repeat refine ⟨by (first | omega | assumption | exact ⟨_, rfl⟩ | exact ⟨_, rfl, rfl⟩), ?_⟩); refine η _ ?_; clear η κ) | (refine zd (hK _ ?_); clear hE hK E K) | refine zh true rfl (fun _ => ?_) (fun h => (by cases h)) | refine zh false rfl (fun h => (by cases h)) fun _ => ?_ | (refine zH (hK _ ?_); clear hE hK E K) | apply zq | apply zi | apply zt | apply zk | apply zu | apply zw | refine zR rfl ?_ | apply zx | apply zy | apply zJ | apply zL | apply zs | apply zT | apply zX | apply zV | apply zM | apply zN | apply zO | ((first | apply zm | apply zQ); (first | apply zn | apply zS | apply zP); simp only [go_sem, simprocAttr])
    refine zby 15 (by decide) (t0 := ?zt2) (up0 := ?zu2) ?zf2 ?zh2; (case zf2 => simp only [go_sem, simprocAttr, hr2]; (repeat' apply And.intro) <;> first | rfl | assumption | decide); simp only [List.reverse_cons, List.reverse_nil, List.nil_append, List.cons_append]
    exact hN _ ⟨_, _, _, zp rfl ⟨rfl, rfl, rfl, rfl, rfl, rfl, rfl, trivial⟩ trivial, b3, b8, b14⟩
  clear b3 b8
  rintro s ⟨F, G0, e, rfl, b3, b8, b14⟩
  have hg8 := hgt' (gvs c V gg.ins) (zb0 c V gg.ins)
  have hidx : ((N0 : Nat) : Int) + (k : Nat) = ((N0 + k : Nat) : Int) := by omega
  obtain ⟨old, hold⟩ : ∃ old, V[N0 + k]? = some old := ⟨_, List.getElem?_eq_getElem (by omega)⟩
  have hold' := zbM hold
  have hset : (bl V).set (N0 + k) [.b (zbp gg (gvs c V gg.ins))] = bl V2 := by rw [ziI, hvn, hN0]
  clear hvn
  generalize gvs c V gg.ins = OF at *
  generalize zbp gg OF = gv at *
  repeat' first | apply zg | apply zj | refine zf rfl fun K E hK hE => ?_ | refine zG rfl (by kernel_rfl) fun K E hK hE => ?_ | ((first | refine za fun κ η => ?_ | refine zo rfl fun κ η => ?_ | refine zr (by kernel_rfl) fun κ η => ?_ | refine zK (by kernel_rfl) rfl fun κ η => ?_); simp only [go_sem, simprocAttr, b14]; (repeat refine ⟨by (first | omega | assumption | exact ⟨_, rfl⟩ | exact ⟨_, rfl, rfl⟩), ?_⟩); refine η _ ?_; clear η κ) | (refine zd (hK _ ?_); clear hE hK E K) | apply zb | refine zh true rfl (fun _ => ?_) (fun h => (by cases h)) | refine zh false rfl (fun h => (by cases h)) fun _ => ?_ | (refine zH (hK _ ?_); clear hE hK E K) | apply zq | apply zi | apply zt | apply zk | apply zu | apply zw | refine zR rfl ?_ | apply zx | apply zy | apply zJ | apply zL | apply zs | apply zT | apply zX | apply zV | apply zM | apply zN | apply zO | ((first | apply zm | apply zQ); (first | apply zn | apply zS | apply zP); simp only [go_sem, simprocAttr, b14])
  (first | refine za fun κ η => ?_ | refine zo rfl fun κ η => ?_ | refine zr (by kernel_rfl) fun κ η => ?_ | refine zK (by kernel_rfl) rfl fun κ η => ?_); simp only [go_sem, simprocAttr, b3, b8, b14]; refine ⟨_, hg8, ?_⟩; simp only [go_sem, simprocAttr, b3, b8, b14]; refine η _ ?_; clear η κ
  repeat' first | apply zg | apply zj | refine zf rfl fun K E hK hE => ?_ | refine zG rfl (by kernel_rfl) fun K E hK hE => ?_ | ((first | refine za fun κ η => ?_ | refine zo rfl fun κ η => ?_ | refine zr (by kernel_rfl) fun κ η => ?_ | refine zK (by kernel_rfl) rfl fun κ η => ?_); simp only [go_sem, simprocAttr, b8, hk', hidx, hold', Int.toNat_natCast]; (repeat refine ⟨by (first | omega | assumption | exact ⟨_, rfl⟩ | exact ⟨_, rfl, rfl⟩), ?_⟩); refine η _ ?_; clear η κ) | (refine zd (hK _ ?_); clear hE hK E K) | apply zb | refine zh true rfl (fun _ => ?_) (fun h => (by cases h)) | refine zh false rfl (fun h => (by cases h)) fun _ => ?_ | (refine zH (hK _ ?_); clear hE hK E K) | apply zq | apply zi | apply zt | apply zk | apply zu | apply zw | refine zR rfl ?_ | apply zx | apply zy | apply zJ | apply zL | apply zs | apply zT | apply zX | apply zV | apply zM | apply zN | apply zO | ((first | apply zm | apply zQ); (first | apply zn | apply zS | apply zP); simp only [go_sem, simprocAttr, b8, hk', hidx, hold', Int.toNat_natCast])
  exact ⟨L.length - (n + 1), by omega, n + 1, rfl, by omega, _, _, _, zp rfl ⟨rfl, rfl, rfl, rfl, rfl, trivial⟩ trivial, b3, by rw [hV2, ← hset]; rfl⟩
 obtain rfl : n = L.length := by omega
 repeat' first | apply zg | apply zj | refine zf rfl fun K E hK hE => ?_ | refine zG rfl (by kernel_rfl) fun K E hK hE => ?_ | ((first | refine za fun κ η => ?_ | refine zo rfl fun κ η => ?_ | refine zr (by kernel_rfl) fun κ η => ?_ | refine zK (by kernel_rfl) rfl fun κ η => ?_); simp only [go_sem, simprocAttr, Int.lt_irrefl, b8]; (repeat refine ⟨by (first | omega | assumption | exact ⟨_, rfl⟩ | exact ⟨_, rfl, rfl⟩), ?_⟩); refine η _ ?_; clear η κ) | (refine zd (hK _ ?_); clear hE hK E K) | apply zb | refine zh true rfl (fun _ => ?_) (fun h => (by cases h)) | refine zh false rfl (fun h => (by cases h)) fun _ => ?_ | (refine zH (hK _ ?_); clear hE hK E K) | apply zq | apply zi | apply zt | apply zk | apply zu | apply zw | refine zR rfl ?_ | apply zx | apply zy | apply zJ | apply zL | apply zs | apply zT | apply zX | apply zV | apply zM | apply zN | apply zO | ((first | apply zm | apply zQ); (first | apply zn | apply zS | apply zP); simp only [go_sem, simprocAttr, Int.lt_irrefl, b8])
end Go.Proofs.YtbhoeanfnbkenaaGreatDoor
namespace Go.Proofs.YtbhoeanfnbkenaaGreatDoor
open Go.RowKit Go.WideMaps
set_option maxRecDepth 100000
set_option linter.unusedSimpArgs false
variable (Hy : World → Prop)
attribute [local irreducible] zU zY cwp z1 z6 lpQ z8 asQ bdQ bdY zab zac zad zaa
set_option maxHeartbeats 16000000 in
theorem zji (c : Ci) (st ii : List Bool) (hr : CRoom c) (hz : CSz c) : Ct Tryz.prog Hy 13 [.ag (cE c), .sl (bl st), .sl (bl ii)] [.sl (bl (zbk c st ii).1), .sl (bl (zbk c st ii).2.1), .i .i64 (zbk c st ii).2.2] := by
 have hv := zmo Hy c st ii hr hz
 have hbad : ∀ e : Int, e ≠ 0 → zbr c st ii = ([], e) → Ct Tryz.prog Hy 13 [.ag (cE c), .sl (bl st), .sl (bl ii)] [.sl (bl []), .sl (bl []), .i .i64 e] := fun e he h => by
  have he' := eq_false he
  rw [h] at hv
  clear h he
  obtain ⟨ins, outs, las, gts⟩ := c
  simp only [cE] at hv ⊢
  generalize bl st = B1 at *
  generalize bl ii = B2 at *
  refine zI (cls := _root_.id) zB zD Tryz.func13 rfl (by decide) (Nat.le_of_ble_eq_true rfl) ?_
  rw [show Tryz.f13.ntmps = 68 from rfl, zC]
  simp only [List.zipIdx_cons, List.zipIdx_nil, List.map_cons, List.map_nil, Nat.reduceAdd]
  repeat' first | apply zg | apply zj | refine zf rfl fun K E hK hE => ?_ | refine zG rfl (by kernel_rfl) fun K E hK hE => ?_ | ((first | refine za fun κ η => ?_ | refine zo rfl fun κ η => ?_ | refine zr (by kernel_rfl) fun κ η => ?_ | refine zK (by kernel_rfl) rfl fun κ η => ?_); simp only [go_sem, simprocAttr]; (repeat refine ⟨by (first | omega | assumption | exact ⟨_, rfl⟩ | exact ⟨_, rfl, rfl⟩), ?_⟩); refine η _ ?_; clear η κ) | (refine zd (hK _ ?_); clear hE hK E K) | apply zb | refine zh true rfl (fun _ => ?_) (fun h => (by cases h)) | refine zh false rfl (fun h => (by cases h)) fun _ => ?_ | (refine zH (hK _ ?_); clear hE hK E K) | apply zq | apply zi | apply zt | apply zk | apply zu | apply zw | refine zR rfl ?_ | apply zx | apply zy | apply zJ | apply zL | apply zs | apply zT | apply zX | apply zV | apply zM | apply zN | apply zO | ((first | apply zm | apply zQ); (first | apply zn | apply zS | apply zP); simp only [go_sem, simprocAttr])
  (first | refine za fun κ η => ?_ | refine zo rfl fun κ η => ?_ | refine zr (by kernel_rfl) fun κ η => ?_ | refine zK (by kernel_rfl) rfl fun κ η => ?_); simp only [go_sem, simprocAttr]; refine ⟨_, hv, ?_⟩; simp only [go_sem, simprocAttr]; refine η _ ?_; clear η κ
  repeat' first | apply zg | apply zj | refine zf rfl fun K E hK hE => ?_ | refine zG rfl (by kernel_rfl) fun K E hK hE => ?_ | ((first | refine za fun κ η => ?_ | refine zo rfl fun κ η => ?_ | refine zr (by kernel_rfl) fun κ η => ?_ | refine zK (by kernel_rfl) rfl fun κ η => ?_); simp only [go_sem, simprocAttr, he']; (repeat refine ⟨by (first | omega | assumption | exact ⟨_, rfl⟩ | exact ⟨_, rfl, rfl⟩), ?_⟩); refine η _ ?_; clear η κ) | (refine zd (hK _ ?_); clear hE hK E K) | apply zb | refine zh true rfl (fun _ => ?_) (fun h => (by cases h)) | refine zh false rfl (fun h => (by cases h)) fun _ => ?_ | (refine zH (hK _ ?_); clear hE hK E K) | apply zq | apply zi | apply zt | apply zk | apply zu | apply zw | refine zR rfl ?_ | apply zx | apply zy | apply zJ | apply zL | apply zs | apply zT | apply zX | apply zV | apply zM | apply zN | apply zO | ((first | apply zm | apply zQ); (first | apply zn | apply zS | apply zP); simp only [go_sem, simprocAttr, he'])
  rfl
 by_cases h0 : (zaw c).1 = 0
 rotate_left
 ·rw [show zbk c st ii = ([], [], 1) from if_neg h0]
  exact hbad 1 (by decide) (if_neg h0)
 by_cases hl : st.length = c.las.length ∧ ii.length = c.ins.length
 rotate_left
 ·rw [show zbk c st ii = ([], [], 11) from (if_pos h0).trans (if_neg hl)]
  exact hbad 11 (by decide) ((if_pos h0).trans (if_neg hl))
 rw [show zbk c st ii = (zbK c (zat c st ii), zbB c (zat c st ii), 0) from (if_pos h0).trans (if_pos hl)]
 rw [show zbr c st ii = (zat c st ii, 0) from (if_pos h0).trans (if_pos hl)] at hv
 have hm := ((zcL c).1 h0).1
 obtain ⟨⟨h200, ho200⟩, hg8⟩ := zcS hm
 have hmay := hm.may
 have hVl : (zat c st ii).length = (z2 c).length := by rw [zb6]; exact (zet c st ii _).trans (by have := hl.1; have := hl.2; omega)
 have hrp : ∀ s ∈ z2 c, Ct Tryz.prog Hy 30 [.ag (cE c), .s s] [.i .i64 (plN c s : Nat)] ∧ plN c s < (z2 c).length := fun s h => by
  have h1 := zes hmay h
  have := zf7 Hy c s ⟨by omega, by omega, by omega, by omega⟩
  rw [h1.2] at this
  exact ⟨this, (List.getElem?_eq_some_iff.1 h1.1).1⟩
 have huo : ∀ s ∈ c.outs, s ∈ z2 c := fun s h => hm.used s (by unfold zbg; exact List.mem_append_left _ h)
 have hul : ∀ x ∈ c.las, x.next ∈ z2 c := fun x h => hm.used _ (by unfold zbg; exact List.mem_append_right _ (List.mem_append_left _ (List.mem_map.2 ⟨x, h, rfl⟩)))
 clear hbad hz hmay hm h0 hg8
 unfold zbK zbB
 generalize zat c st ii = V at *
 simp only [cE] at hv hrp ⊢
 refine zI (cls := _root_.id) zB zD Tryz.func13 rfl (by decide) (Nat.le_of_ble_eq_true rfl) ?_
 rw [show Tryz.f13.ntmps = 68 from rfl, zC]
 simp only [List.zipIdx_cons, List.zipIdx_nil, List.map_cons, List.map_nil, Nat.reduceAdd]
 repeat' first | apply zg | apply zj | refine zf rfl fun K E hK hE => ?_ | refine zG rfl (by kernel_rfl) fun K E hK hE => ?_ | ((first | refine za fun κ η => ?_ | refine zo rfl fun κ η => ?_ | refine zr (by kernel_rfl) fun κ η => ?_ | refine zK (by kernel_rfl) rfl fun κ η => ?_); simp only [go_sem, simprocAttr]; (repeat refine ⟨by (first | omega | assumption | exact ⟨_, rfl⟩ | exact ⟨_, rfl, rfl⟩), ?_⟩); refine η _ ?_; clear η κ) | (refine zd (hK _ ?_); clear hE hK E K) | apply zb | refine zh true rfl (fun _ => ?_) (fun h => (by cases h)) | refine zh false rfl (fun h => (by cases h)) fun _ => ?_ | (refine zH (hK _ ?_); clear hE hK E K) | apply zq | apply zi | apply zt | apply zk | apply zu | apply zw | refine zR rfl ?_ | apply zx | apply zy | apply zJ | apply zL | apply zs | apply zT | apply zX | apply zV | apply zM | apply zN | apply zO | ((first | apply zm | apply zQ); (first | apply zn | apply zS | apply zP); simp only [go_sem, simprocAttr])
 (first | refine za fun κ η => ?_ | refine zo rfl fun κ η => ?_ | refine zr (by kernel_rfl) fun κ η => ?_ | refine zK (by kernel_rfl) rfl fun κ η => ?_); simp only [go_sem, simprocAttr]; refine ⟨_, hv, ?_⟩; simp only [go_sem, simprocAttr]; refine η _ ?_; clear η κ
 repeat' first | apply zj | refine zf rfl fun K E hK hE => ?_ | refine zG rfl (by kernel_rfl) fun K E hK hE => ?_ | ((first | refine za fun κ η => ?_ | refine zo rfl fun κ η => ?_ | refine zr (by kernel_rfl) fun κ η => ?_ | refine zK (by kernel_rfl) rfl fun κ η => ?_); simp only [go_sem, simprocAttr]; (repeat refine ⟨by (first | omega | assumption | exact ⟨_, rfl⟩ | exact ⟨_, rfl, rfl⟩), ?_⟩); refine η _ ?_; clear η κ) | (refine zd (hK _ ?_); clear hE hK E K) | apply zb | refine zh true rfl (fun _ => ?_) (fun h => (by cases h)) | refine zh false rfl (fun h => (by cases h)) fun _ => ?_ | (refine zH (hK _ ?_); clear hE hK E K) | apply zq | apply zi | apply zt | apply zk | apply zu | apply zw | refine zR rfl ?_ | apply zx | apply zy | apply zJ | apply zL | apply zs | apply zT | apply zX | apply zV | apply zM | apply zN | apply zO | ((first | apply zm | apply zQ); (first | apply zn | apply zS | apply zP); simp only [go_sem, simprocAttr])
 apply zg
 apply zg
 repeat' first | apply zj | refine zf rfl fun K E hK hE => ?_ | refine zG rfl (by kernel_rfl) fun K E hK hE => ?_ | ((first | refine za fun κ η => ?_ | refine zo rfl fun κ η => ?_ | refine zr (by kernel_rfl) fun κ η => ?_ | refine zK (by kernel_rfl) rfl fun κ η => ?_); simp only [go_sem, simprocAttr]; (repeat refine ⟨by (first | omega | assumption | exact ⟨_, rfl⟩ | exact ⟨_, rfl, rfl⟩), ?_⟩); refine η _ ?_; clear η κ) | (refine zd (hK _ ?_); clear hE hK E K) | apply zb | refine zh true rfl (fun _ => ?_) (fun h => (by cases h)) | refine zh false rfl (fun h => (by cases h)) fun _ => ?_ | (refine zH (hK _ ?_); clear hE hK E K) | apply zq | apply zi | apply zt | apply zk | apply zu | apply zw | refine zR rfl ?_ | apply zx | apply zy | apply zJ | apply zL | apply zs | apply zT | apply zX | apply zV | apply zM | apply zN | apply zO | ((first | apply zm | apply zQ); (first | apply zn | apply zS | apply zP); simp only [go_sem, simprocAttr])
 apply zg
 repeat' first | apply zj | refine zf rfl fun K E hK hE => ?_ | refine zG rfl (by kernel_rfl) fun K E hK hE => ?_ | ((first | refine za fun κ η => ?_ | refine zo rfl fun κ η => ?_ | refine zr (by kernel_rfl) fun κ η => ?_ | refine zK (by kernel_rfl) rfl fun κ η => ?_); simp only [go_sem, simprocAttr]; (repeat refine ⟨by (first | omega | assumption | exact ⟨_, rfl⟩ | exact ⟨_, rfl, rfl⟩), ?_⟩); refine η _ ?_; clear η κ) | (refine zd (hK _ ?_); clear hE hK E K) | apply zb | refine zh true rfl (fun _ => ?_) (fun h => (by cases h)) | refine zh false rfl (fun h => (by cases h)) fun _ => ?_ | (refine zH (hK _ ?_); clear hE hK E K) | apply zq | apply zi | apply zt | apply zk | apply zu | apply zw | refine zR rfl ?_ | apply zx | apply zy | apply zJ | apply zL | apply zs | apply zT | apply zX | apply zV | apply zM | apply zN | apply zO | ((first | apply zm | apply zQ); (first | apply zn | apply zS | apply zP); simp only [go_sem, simprocAttr])
 apply zg
 repeat' first | apply zj | refine zf rfl fun K E hK hE => ?_ | refine zG rfl (by kernel_rfl) fun K E hK hE => ?_ | ((first | refine za fun κ η => ?_ | refine zo rfl fun κ η => ?_ | refine zr (by kernel_rfl) fun κ η => ?_ | refine zK (by kernel_rfl) rfl fun κ η => ?_); simp only [go_sem, simprocAttr]; (repeat refine ⟨by (first | omega | assumption | exact ⟨_, rfl⟩ | exact ⟨_, rfl, rfl⟩), ?_⟩); refine η _ ?_; clear η κ) | (refine zd (hK _ ?_); clear hE hK E K) | apply zb | refine zh true rfl (fun _ => ?_) (fun h => (by cases h)) | refine zh false rfl (fun h => (by cases h)) fun _ => ?_ | (refine zH (hK _ ?_); clear hE hK E K) | apply zq | apply zi | apply zt | apply zk | apply zu | apply zw | refine zR rfl ?_ | apply zx | apply zy | apply zJ | apply zL | apply zs | apply zT | apply zX | apply zV | apply zM | apply zN | apply zO | ((first | apply zm | apply zQ); (first | apply zn | apply zS | apply zP); simp only [go_sem, simprocAttr])
 refine zcv (fun s => ∃ F G0, s = nf 68 F G0 [(3, .ptr 3 1 0), (9, .t (.sl (bl V))), (12, .nilS), (11, .t (.sl (bl (gvs c V c.outs))))] [] ∧ G0 3 = ⟨1, .cells 26 [.t (.sl (sR c.ins)), .t (.sl (sR c.outs)), .t (.sl (lsR c.las)), .t (.sl (gsR c.gts))]⟩) ?_ ?_
 rotate_left
 ·intro N hN
  repeat' first | apply zg | apply zj | refine zf rfl fun K E hK hE => ?_ | refine zG rfl (by kernel_rfl) fun K E hK hE => ?_ | ((first | refine za fun κ η => ?_ | refine zo rfl fun κ η => ?_ | refine zr (by kernel_rfl) fun κ η => ?_ | refine zK (by kernel_rfl) rfl fun κ η => ?_); simp only [go_sem, simprocAttr]; (repeat refine ⟨by (first | omega | assumption | exact ⟨_, rfl⟩ | exact ⟨_, rfl, rfl⟩), ?_⟩); refine η _ ?_; clear η κ) | (refine zd (hK _ ?_); clear hE hK E K) | apply zb | refine zh true rfl (fun _ => ?_) (fun h => (by cases h)) | refine zh false rfl (fun h => (by cases h)) fun _ => ?_ | (refine zH (hK _ ?_); clear hE hK E K) | apply zq | apply zi | apply zt | apply zk | apply zu | apply zw | refine zR rfl ?_ | apply zx | apply zy | apply zJ | apply zL | apply zs | apply zT | apply zX | apply zV | apply zM | apply zN | apply zO | ((first | apply zm | apply zQ); (first | apply zn | apply zS | apply zP); simp only [go_sem, simprocAttr])
  refine zW (fun m s' => ∃ p : Nat, m = c.outs.length - p ∧ p ≤ c.outs.length ∧ ∃ F G0 yy, s' = nf 68 F G0 [(3, .ptr 3 1 0), (9, .t (.sl (bl V))), (12, .nilS), (11, yy), (13, .t (.i .i64 p))] [] ∧ G0 3 = ⟨1, .cells 26 [.t (.sl (sR c.ins)), .t (.sl (sR c.outs)), .t (.sl (lsR c.las)), .t (.sl (gsR c.gts))]⟩ ∧ Acc G0 44 4 1 (bl (gvs c V (c.outs.take p))) yy) c.outs.length ?_ ?_
  ·exact ⟨0, by omega, by omega, _, _, _, zp rfl ⟨rfl, rfl, rfl, rfl, rfl, trivial⟩ trivial, rfl, .inl ⟨rfl, rfl⟩⟩
  skip
  rintro m s' ⟨p, rfl, hp, F, G0, yy, rfl, b3, hy⟩
  have hlen : (bl (gvs c V (c.outs.take p))).length ≤ 1000 := by rw [zaX, zb0, List.length_take]; omega
  by_cases hdp : p < c.outs.length
  ·have hd2 : ((p : Int) < c.outs.length) = True := eq_true (by omega)
   obtain ⟨s, hs3⟩ : ∃ s, c.outs[p]? = some s := ⟨_, List.getElem?_eq_getElem hdp⟩
   have hs' := za5 hs3
   have hsu := huo s (List.mem_of_getElem? hs3)
   obtain ⟨hpl, hpv⟩ := hrp s hsu
   rw [← hVl] at hpv
   obtain ⟨x, hx⟩ : ∃ x, V[plN c s]? = some x := ⟨_, List.getElem?_eq_getElem hpv⟩
   have hx' := zbM hx
   have hsn : bl (gvs c V (c.outs.take (p + 1))) = bl (gvs c V (c.outs.take p)) ++ [[.b x]] := by
    rw [zdd hs3, zbV, List.getD_eq_getElem?_getD, hx]
    rfl
   generalize bl (gvs c V (c.outs.take p)) = rw0 at hsn hlen hy
   rcases hy with ⟨y0, rfl⟩ | ⟨q', rfl, hr2⟩
   ·rw [y0] at hsn
    repeat' first | apply zg | apply zj | refine zf rfl fun K E hK hE => ?_ | refine zG rfl (by kernel_rfl) fun K E hK hE => ?_ | ((first | refine za fun κ η => ?_ | refine zo rfl fun κ η => ?_ | refine zr (by kernel_rfl) fun κ η => ?_ | refine zK (by kernel_rfl) rfl fun κ η => ?_); simp only [go_sem, simprocAttr, b3, hd2, hs']; (repeat refine ⟨by (first | omega | assumption | exact ⟨_, rfl⟩ | exact ⟨_, rfl, rfl⟩), ?_⟩); refine η _ ?_; clear η κ) | (refine zd (hK _ ?_); clear hE hK E K) | apply zb | refine zh true rfl (fun _ => ?_) (fun h => (by cases h)) | refine zh false rfl (fun h => (by cases h)) fun _ => ?_ | (refine zH (hK _ ?_); clear hE hK E K) | apply zq | apply zi | apply zt | apply zk | apply zu | apply zw | refine zR rfl ?_ | apply zx | apply zy | apply zJ | apply zL | apply zs | apply zT | apply zX | apply zV | apply zM | apply zN | apply zO | ((first | apply zm | apply zQ); (first | apply zn | apply zS | apply zP); simp only [go_sem, simprocAttr, b3, hd2, hs'])
    (first | refine za fun κ η => ?_ | refine zo rfl fun κ η => ?_ | refine zr (by kernel_rfl) fun κ η => ?_ | refine zK (by kernel_rfl) rfl fun κ η => ?_); simp only [go_sem, simprocAttr]; refine ⟨_, hpl, ?_⟩; simp only [go_sem, simprocAttr]; refine η _ ?_; clear η κ
    repeat' first | apply zg | apply zj | refine zf rfl fun K E hK hE => ?_ | refine zG rfl (by kernel_rfl) fun K E hK hE => ?_ | ((first | refine za fun κ η => ?_ | refine zo rfl fun κ η => ?_ | refine zr (by kernel_rfl) fun κ η => ?_ | refine zK (by kernel_rfl) rfl fun κ η => ?_); simp only [go_sem, simprocAttr, b3, hx', Int.toNat_natCast]; (repeat refine ⟨by (first | omega | assumption | exact ⟨_, rfl⟩ | exact ⟨_, rfl, rfl⟩), ?_⟩); refine η _ ?_; clear η κ) | (refine zd (hK _ ?_); clear hE hK E K) | apply zb | refine zh true rfl (fun _ => ?_) (fun h => (by cases h)) | refine zh false rfl (fun h => (by cases h)) fun _ => ?_ | (refine zH (hK _ ?_); clear hE hK E K) | apply zq | apply zi | apply zt | apply zk | apply zu | apply zw | refine zR rfl ?_ | apply zx | apply zy | apply zJ | apply zL | apply zs | apply zT | apply zX | apply zV | apply zM | apply zN | apply zO | ((first | apply zm | apply zQ); (first | apply zn | apply zS | apply zP); simp only [go_sem, simprocAttr, b3, hx', Int.toNat_natCast])
    exact ⟨c.outs.length - (p + 1), by omega, p + 1, rfl, by omega, _, _, _, zp rfl ⟨rfl, rfl, rfl, rfl, rfl, trivial⟩ trivial, b3, .inr ⟨_, rfl, by rw [hsn]; rfl⟩⟩
   ·repeat' first | apply zg | apply zj | refine zf rfl fun K E hK hE => ?_ | refine zG rfl (by kernel_rfl) fun K E hK hE => ?_ | ((first | refine za fun κ η => ?_ | refine zo rfl fun κ η => ?_ | refine zr (by kernel_rfl) fun κ η => ?_ | refine zK (by kernel_rfl) rfl fun κ η => ?_); simp only [go_sem, simprocAttr, b3, hd2, hs']; (repeat refine ⟨by (first | omega | assumption | exact ⟨_, rfl⟩ | exact ⟨_, rfl, rfl⟩), ?_⟩); refine η _ ?_; clear η κ) | (refine zd (hK _ ?_); clear hE hK E K) | apply zb | refine zh true rfl (fun _ => ?_) (fun h => (by cases h)) | refine zh false rfl (fun h => (by cases h)) fun _ => ?_ | (refine zH (hK _ ?_); clear hE hK E K) | apply zq | apply zi | apply zt | apply zk | apply zu | apply zw | refine zR rfl ?_ | apply zx | apply zy | apply zJ | apply zL | apply zs | apply zT | apply zX | apply zV | apply zM | apply zN | apply zO | ((first | apply zm | apply zQ); (first | apply zn | apply zS | apply zP); simp only [go_sem, simprocAttr, b3, hd2, hs'])
    (first | refine za fun κ η => ?_ | refine zo rfl fun κ η => ?_ | refine zr (by kernel_rfl) fun κ η => ?_ | refine zK (by kernel_rfl) rfl fun κ η => ?_); simp only [go_sem, simprocAttr]; refine ⟨_, hpl, ?_⟩; simp only [go_sem, simprocAttr]; refine η _ ?_; clear η κ
    repeat' first | apply zg | apply zj | refine zf rfl fun K E hK hE => ?_ | refine zG rfl (by kernel_rfl) fun K E hK hE => ?_ | ((first | refine za fun κ η => ?_ | refine zo rfl fun κ η => ?_ | refine zr (by kernel_rfl) fun κ η => ?_ | refine zK (by kernel_rfl) rfl fun κ η => ?_); simp only [go_sem, simprocAttr, b3, hx', hr2, Int.toNat_natCast]; (repeat refine ⟨by (first | omega | assumption | exact ⟨_, rfl⟩ | exact ⟨_, rfl, rfl⟩), ?_⟩); refine η _ ?_; clear η κ) | (refine zd (hK _ ?_); clear hE hK E K) | apply zb | refine zh true rfl (fun _ => ?_) (fun h => (by cases h)) | refine zh false rfl (fun h => (by cases h)) fun _ => ?_ | (refine zH (hK _ ?_); clear hE hK E K) | apply zq | apply zi | apply zt | apply zk | apply zu | apply zw | refine zR rfl ?_ | apply zx | apply zy | apply zJ | apply zL | apply zs | apply zT | apply zX | apply zV | apply zM | apply zN | apply zO | ((first | apply zm | apply zQ); (first | apply zn | apply zS | apply zP); simp only [go_sem, simprocAttr, b3, hx', hr2, Int.toNat_natCast])
    exact ⟨c.outs.length - (p + 1), by omega, p + 1, rfl, by omega, _, _, _, zp rfl ⟨rfl, rfl, rfl, rfl, rfl, trivial⟩ trivial, b3, .inr ⟨_, rfl, by rw [hsn]; rfl⟩⟩
  have hd2 : ((p : Int) < c.outs.length) = False := eq_false (by omega)
  rw [List.take_of_length_le (by omega)] at hy
  rcases hy with ⟨y0, rfl⟩ | ⟨q', rfl, hr2⟩
  ·skip
   repeat' first | apply zg | apply zj | refine zf rfl fun K E hK hE => ?_ | refine zG rfl (by kernel_rfl) fun K E hK hE => ?_ | ((first | refine za fun κ η => ?_ | refine zo rfl fun κ η => ?_ | refine zr (by kernel_rfl) fun κ η => ?_ | refine zK (by kernel_rfl) rfl fun κ η => ?_); simp only [go_sem, simprocAttr, hd2, b3]; (repeat refine ⟨by (first | omega | assumption | exact ⟨_, rfl⟩ | exact ⟨_, rfl, rfl⟩), ?_⟩); refine η _ ?_; clear η κ) | (refine zd (hK _ ?_); clear hE hK E K) | refine zh true rfl (fun _ => ?_) (fun h => (by cases h)) | refine zh false rfl (fun h => (by cases h)) fun _ => ?_ | (refine zH (hK _ ?_); clear hE hK E K) | apply zq | apply zi | apply zt | apply zk | apply zu | apply zw | refine zR rfl ?_ | apply zx | apply zy | apply zJ | apply zL | apply zs | apply zT | apply zX | apply zV | apply zM | apply zN | apply zO | ((first | apply zm | apply zQ); (first | apply zn | apply zS | apply zP); simp only [go_sem, simprocAttr, hd2, b3])
   apply zb
   repeat' first | apply zg | apply zj | refine zf rfl fun K E hK hE => ?_ | refine zG rfl (by kernel_rfl) fun K E hK hE => ?_ | ((first | refine za fun κ η => ?_ | refine zo rfl fun κ η => ?_ | refine zr (by kernel_rfl) fun κ η => ?_ | refine zK (by kernel_rfl) rfl fun κ η => ?_); simp only [go_sem, simprocAttr]; (repeat refine ⟨by (first | omega | assumption | exact ⟨_, rfl⟩ | exact ⟨_, rfl, rfl⟩), ?_⟩); refine η _ ?_; clear η κ) | (refine zd (hK _ ?_); clear hE hK E K) | refine zh true rfl (fun _ => ?_) (fun h => (by cases h)) | refine zh false rfl (fun h => (by cases h)) fun _ => ?_ | (refine zH (hK _ ?_); clear hE hK E K) | apply zq | apply zi | apply zt | apply zk | apply zu | apply zw | refine zR rfl ?_ | apply zx | apply zy | apply zJ | apply zL | apply zs | apply zT | apply zX | apply zV | apply zM | apply zN | apply zO | ((first | apply zm | apply zQ); (first | apply zn | apply zS | apply zP); simp only [go_sem, simprocAttr])
   refine zby 11 (by decide) (t0 := ?zt1) (up0 := ?zu1) ?zf1 ?zh1; (case zf1 => simp only [go_sem, simprocAttr]; (repeat' apply And.intro) <;> first | rfl | assumption | decide); simp only [List.reverse_cons, List.reverse_nil, List.nil_append, List.cons_append]
   exact hN _ ⟨_, _, zp rfl ⟨rfl, rfl, rfl, by rw [y0]; rfl, trivial⟩ trivial, b3⟩
  ·skip
   repeat' first | apply zg | apply zj | refine zf rfl fun K E hK hE => ?_ | refine zG rfl (by kernel_rfl) fun K E hK hE => ?_ | ((first | refine za fun κ η => ?_ | refine zo rfl fun κ η => ?_ | refine zr (by kernel_rfl) fun κ η => ?_ | refine zK (by kernel_rfl) rfl fun κ η => ?_); simp only [go_sem, simprocAttr, hd2, b3]; (repeat refine ⟨by (first | omega | assumption | exact ⟨_, rfl⟩ | exact ⟨_, rfl, rfl⟩), ?_⟩); refine η _ ?_; clear η κ) | (refine zd (hK _ ?_); clear hE hK E K) | refine zh true rfl (fun _ => ?_) (fun h => (by cases h)) | refine zh false rfl (fun h => (by cases h)) fun _ => ?_ | (refine zH (hK _ ?_); clear hE hK E K) | apply zq | apply zi | apply zt | apply zk | apply zu | apply zw | refine zR rfl ?_ | apply zx | apply zy | apply zJ | apply zL | apply zs | apply zT | apply zX | apply zV | apply zM | apply zN | apply zO | ((first | apply zm | apply zQ); (first | apply zn | apply zS | apply zP); simp only [go_sem, simprocAttr, hd2, b3])
   apply zb
   repeat' first | apply zg | apply zj | refine zf rfl fun K E hK hE => ?_ | refine zG rfl (by kernel_rfl) fun K E hK hE => ?_ | ((first | refine za fun κ η => ?_ | refine zo rfl fun κ η => ?_ | refine zr (by kernel_rfl) fun κ η => ?_ | refine zK (by kernel_rfl) rfl fun κ η => ?_); simp only [go_sem, simprocAttr]; (repeat refine ⟨by (first | omega | assumption | exact ⟨_, rfl⟩ | exact ⟨_, rfl, rfl⟩), ?_⟩); refine η _ ?_; clear η κ) | (refine zd (hK _ ?_); clear hE hK E K) | refine zh true rfl (fun _ => ?_) (fun h => (by cases h)) | refine zh false rfl (fun h => (by cases h)) fun _ => ?_ | (refine zH (hK _ ?_); clear hE hK E K) | apply zq | apply zi | apply zt | apply zk | apply zu | apply zw | refine zR rfl ?_ | apply zx | apply zy | apply zJ | apply zL | apply zs | apply zT | apply zX | apply zV | apply zM | apply zN | apply zO | ((first | apply zm | apply zQ); (first | apply zn | apply zS | apply zP); simp only [go_sem, simprocAttr])
   refine zby 11 (by decide) (t0 := ?zt2) (up0 := ?zu2) ?zf2 ?zh2; (case zf2 => simp only [go_sem, simprocAttr, hr2]; (repeat' apply And.intro) <;> first | rfl | assumption | decide); simp only [List.reverse_cons, List.reverse_nil, List.nil_append, List.cons_append]
   exact hN _ ⟨_, _, zp rfl ⟨rfl, rfl, rfl, rfl, trivial⟩ trivial, b3⟩
 rintro s ⟨F, G0, rfl, b3⟩
 refine zcv (fun s => ∃ F G0, s = nf 68 F G0 [(3, .ptr 3 1 0), (9, .t (.sl (bl V))), (11, .t (.sl (bl (gvs c V c.outs)))), (12, .t (.sl (bl (gvs c V (zaU c.las)))))] [] ∧ G0 3 = ⟨1, .cells 26 [.t (.sl (sR c.ins)), .t (.sl (sR c.outs)), .t (.sl (lsR c.las)), .t (.sl (gsR c.gts))]⟩) ?_ ?_
 rotate_left
 ·intro N hN
  repeat' first | apply zg | apply zj | refine zf rfl fun K E hK hE => ?_ | refine zG rfl (by kernel_rfl) fun K E hK hE => ?_ | ((first | refine za fun κ η => ?_ | refine zo rfl fun κ η => ?_ | refine zr (by kernel_rfl) fun κ η => ?_ | refine zK (by kernel_rfl) rfl fun κ η => ?_); simp only [go_sem, simprocAttr]; (repeat refine ⟨by (first | omega | assumption | exact ⟨_, rfl⟩ | exact ⟨_, rfl, rfl⟩), ?_⟩); refine η _ ?_; clear η κ) | (refine zd (hK _ ?_); clear hE hK E K) | apply zb | refine zh true rfl (fun _ => ?_) (fun h => (by cases h)) | refine zh false rfl (fun h => (by cases h)) fun _ => ?_ | (refine zH (hK _ ?_); clear hE hK E K) | apply zq | apply zi | apply zt | apply zk | apply zu | apply zw | refine zR rfl ?_ | apply zx | apply zy | apply zJ | apply zL | apply zs | apply zT | apply zX | apply zV | apply zM | apply zN | apply zO | ((first | apply zm | apply zQ); (first | apply zn | apply zS | apply zP); simp only [go_sem, simprocAttr])
  refine zW (fun m s' => ∃ p : Nat, m = c.las.length - p ∧ p ≤ c.las.length ∧ ∃ F G0 yy, s' = nf 68 F G0 [(3, .ptr 3 1 0), (9, .t (.sl (bl V))), (11, .t (.sl (bl (gvs c V c.outs)))), (12, yy), (14, .t (.i .i64 p))] [] ∧ G0 3 = ⟨1, .cells 26 [.t (.sl (sR c.ins)), .t (.sl (sR c.outs)), .t (.sl (lsR c.las)), .t (.sl (gsR c.gts))]⟩ ∧ Acc G0 65 4 1 (bl (gvs c V ((zaU c.las).take p))) yy) c.las.length ?_ ?_
  ·exact ⟨0, by omega, by omega, _, _, _, zp rfl ⟨rfl, rfl, rfl, rfl, rfl, trivial⟩ trivial, b3, .inl ⟨rfl, rfl⟩⟩
  clear b3
  rintro m s' ⟨p, rfl, hp, F, G0, yy, rfl, b3, hy⟩
  have hlen : (bl (gvs c V ((zaU c.las).take p))).length ≤ 1000 := by rw [zaX, zb0, List.length_take]; omega
  by_cases hdp : p < c.las.length
  ·have hd2 : ((p : Int) < c.las.length) = True := eq_true (by omega)
   obtain ⟨y, hy3⟩ : ∃ y, c.las[p]? = some y := ⟨_, List.getElem?_eq_getElem hdp⟩
   have hs' := zbv hy3
   have hsu := hul y (List.mem_of_getElem? hy3)
   obtain ⟨s, hse⟩ : ∃ s, s = y.next := ⟨_, rfl⟩
   have hs3 : (zaU c.las)[p]? = some s := by unfold zaU; rw [List.getElem?_map, hy3, hse]; rfl
   rw [← hse] at hs' hsu
   obtain ⟨hpl, hpv⟩ := hrp s hsu
   rw [← hVl] at hpv
   obtain ⟨x, hx⟩ : ∃ x, V[plN c s]? = some x := ⟨_, List.getElem?_eq_getElem hpv⟩
   have hx' := zbM hx
   have hsn : bl (gvs c V ((zaU c.las).take (p + 1))) = bl (gvs c V ((zaU c.las).take p)) ++ [[.b x]] := by
    rw [zdd hs3, zbV, List.getD_eq_getElem?_getD, hx]
    rfl
   generalize bl (gvs c V ((zaU c.las).take p)) = rw0 at hsn hlen hy
   rcases hy with ⟨y0, rfl⟩ | ⟨q', rfl, hr2⟩
   ·rw [y0] at hsn
    repeat' first | apply zg | apply zj | refine zf rfl fun K E hK hE => ?_ | refine zG rfl (by kernel_rfl) fun K E hK hE => ?_ | ((first | refine za fun κ η => ?_ | refine zo rfl fun κ η => ?_ | refine zr (by kernel_rfl) fun κ η => ?_ | refine zK (by kernel_rfl) rfl fun κ η => ?_); simp only [go_sem, simprocAttr, b3, hd2, hs']; (repeat refine ⟨by (first | omega | assumption | exact ⟨_, rfl⟩ | exact ⟨_, rfl, rfl⟩), ?_⟩); refine η _ ?_; clear η κ) | (refine zd (hK _ ?_); clear hE hK E K) | apply zb | refine zh true rfl (fun _ => ?_) (fun h => (by cases h)) | refine zh false rfl (fun h => (by cases h)) fun _ => ?_ | (refine zH (hK _ ?_); clear hE hK E K) | apply zq | apply zi | apply zt | apply zk | apply zu | apply zw | refine zR rfl ?_ | apply zx | apply zy | apply zJ | apply zL | apply zs | apply zT | apply zX | apply zV | apply zM | apply zN | apply zO | ((first | apply zm | apply zQ); (first | apply zn | apply zS | apply zP); simp only [go_sem, simprocAttr, b3, hd2, hs'])
    (first | refine za fun κ η => ?_ | refine zo rfl fun κ η => ?_ | refine zr (by kernel_rfl) fun κ η => ?_ | refine zK (by kernel_rfl) rfl fun κ η => ?_); simp only [go_sem, simprocAttr]; refine ⟨_, hpl, ?_⟩; simp only [go_sem, simprocAttr]; refine η _ ?_; clear η κ
    repeat' first | apply zg | apply zj | refine zf rfl fun K E hK hE => ?_ | refine zG rfl (by kernel_rfl) fun K E hK hE => ?_ | ((first | refine za fun κ η => ?_ | refine zo rfl fun κ η => ?_ | refine zr (by kernel_rfl) fun κ η => ?_ | refine zK (by kernel_rfl) rfl fun κ η => ?_); simp only [go_sem, simprocAttr, b3, hx', Int.toNat_natCast]; (repeat refine ⟨by (first | omega | assumption | exact ⟨_, rfl⟩ | exact ⟨_, rfl, rfl⟩), ?_⟩); refine η _ ?_; clear η κ) | (refine zd (hK _ ?_); clear hE hK E K) | apply zb | refine zh true rfl (fun _ => ?_) (fun h => (by cases h)) | refine zh false rfl (fun h => (by cases h)) fun _ => ?_ | (refine zH (hK _ ?_); clear hE hK E K) | apply zq | apply zi | apply zt | apply zk | apply zu | apply zw | refine zR rfl ?_ | apply zx | apply zy | apply zJ | apply zL | apply zs | apply zT | apply zX | apply zV | apply zM | apply zN | apply zO | ((first | apply zm | apply zQ); (first | apply zn | apply zS | apply zP); simp only [go_sem, simprocAttr, b3, hx', Int.toNat_natCast])
    exact ⟨c.las.length - (p + 1), by omega, p + 1, rfl, by omega, _, _, _, zp rfl ⟨rfl, rfl, rfl, rfl, rfl, trivial⟩ trivial, b3, .inr ⟨_, rfl, by rw [hsn]; rfl⟩⟩
   ·repeat' first | apply zg | apply zj | refine zf rfl fun K E hK hE => ?_ | refine zG rfl (by kernel_rfl) fun K E hK hE => ?_ | ((first | refine za fun κ η => ?_ | refine zo rfl fun κ η => ?_ | refine zr (by kernel_rfl) fun κ η => ?_ | refine zK (by kernel_rfl) rfl fun κ η => ?_); simp only [go_sem, simprocAttr, b3, hd2, hs']; (repeat refine ⟨by (first | omega | assumption | exact ⟨_, rfl⟩ | exact ⟨_, rfl, rfl⟩), ?_⟩); refine η _ ?_; clear η κ) | (refine zd (hK _ ?_); clear hE hK E K) | apply zb | refine zh true rfl (fun _ => ?_) (fun h => (by cases h)) | refine zh false rfl (fun h => (by cases h)) fun _ => ?_ | (refine zH (hK _ ?_); clear hE hK E K) | apply zq | apply zi | apply zt | apply zk | apply zu | apply zw | refine zR rfl ?_ | apply zx | apply zy | apply zJ | apply zL | apply zs | apply zT | apply zX | apply zV | apply zM | apply zN | apply zO | ((first | apply zm | apply zQ); (first | apply zn | apply zS | apply zP); simp only [go_sem, simprocAttr, b3, hd2, hs'])
    (first | refine za fun κ η => ?_ | refine zo rfl fun κ η => ?_ | refine zr (by kernel_rfl) fun κ η => ?_ | refine zK (by kernel_rfl) rfl fun κ η => ?_); simp only [go_sem, simprocAttr]; refine ⟨_, hpl, ?_⟩; simp only [go_sem, simprocAttr]; refine η _ ?_; clear η κ
    repeat' first | apply zg | apply zj | refine zf rfl fun K E hK hE => ?_ | refine zG rfl (by kernel_rfl) fun K E hK hE => ?_ | ((first | refine za fun κ η => ?_ | refine zo rfl fun κ η => ?_ | refine zr (by kernel_rfl) fun κ η => ?_ | refine zK (by kernel_rfl) rfl fun κ η => ?_); simp only [go_sem, simprocAttr, b3, hx', hr2, Int.toNat_natCast]; (repeat refine ⟨by (first | omega | assumption | exact ⟨_, rfl⟩ | exact ⟨_, rfl, rfl⟩), ?_⟩); refine η _ ?_; clear η κ) | (refine zd (hK _ ?_); clear hE hK E K) | apply zb | refine zh true rfl (fun _ => ?_) (fun h => (by cases h)) | refine zh false rfl (fun h => (by cases h)) fun _ => ?_ | (refine zH (hK _ ?_); clear hE hK E K) | apply zq | apply zi | apply zt | apply zk | apply zu | apply zw | refine zR rfl ?_ | apply zx | apply zy | apply zJ | apply zL | apply zs | apply zT | apply zX | apply zV | apply zM | apply zN | apply zO | ((first | apply zm | apply zQ); (first | apply zn | apply zS | apply zP); simp only [go_sem, simprocAttr, b3, hx', hr2, Int.toNat_natCast])
    exact ⟨c.las.length - (p + 1), by omega, p + 1, rfl, by omega, _, _, _, zp rfl ⟨rfl, rfl, rfl, rfl, rfl, trivial⟩ trivial, b3, .inr ⟨_, rfl, by rw [hsn]; rfl⟩⟩
  have hd2 : ((p : Int) < c.las.length) = False := eq_false (by omega)
  rw [List.take_of_length_le (by unfold zaU; rw [List.length_map]; omega)] at hy
  rcases hy with ⟨y0, rfl⟩ | ⟨q', rfl, hr2⟩
  ·skip
   repeat' first | apply zg | apply zj | refine zf rfl fun K E hK hE => ?_ | refine zG rfl (by kernel_rfl) fun K E hK hE => ?_ | ((first | refine za fun κ η => ?_ | refine zo rfl fun κ η => ?_ | refine zr (by kernel_rfl) fun κ η => ?_ | refine zK (by kernel_rfl) rfl fun κ η => ?_); simp only [go_sem, simprocAttr, hd2, b3]; (repeat refine ⟨by (first | omega | assumption | exact ⟨_, rfl⟩ | exact ⟨_, rfl, rfl⟩), ?_⟩); refine η _ ?_; clear η κ) | (refine zd (hK _ ?_); clear hE hK E K) | refine zh true rfl (fun _ => ?_) (fun h => (by cases h)) | refine zh false rfl (fun h => (by cases h)) fun _ => ?_ | (refine zH (hK _ ?_); clear hE hK E K) | apply zq | apply zi | apply zt | apply zk | apply zu | apply zw | refine zR rfl ?_ | apply zx | apply zy | apply zJ | apply zL | apply zs | apply zT | apply zX | apply zV | apply zM | apply zN | apply zO | ((first | apply zm | apply zQ); (first | apply zn | apply zS | apply zP); simp only [go_sem, simprocAttr, hd2, b3])
   apply zb
   repeat' first | apply zg | apply zj | refine zf rfl fun K E hK hE => ?_ | refine zG rfl (by kernel_rfl) fun K E hK hE => ?_ | ((first | refine za fun κ η => ?_ | refine zo rfl fun κ η => ?_ | refine zr (by kernel_rfl) fun κ η => ?_ | refine zK (by kernel_rfl) rfl fun κ η => ?_); simp only [go_sem, simprocAttr]; (repeat refine ⟨by (first | omega | assumption | exact ⟨_, rfl⟩ | exact ⟨_, rfl, rfl⟩), ?_⟩); refine η _ ?_; clear η κ) | (refine zd (hK _ ?_); clear hE hK E K) | refine zh true rfl (fun _ => ?_) (fun h => (by cases h)) | refine zh false rfl (fun h => (by cases h)) fun _ => ?_ | (refine zH (hK _ ?_); clear hE hK E K) | apply zq | apply zi | apply zt | apply zk | apply zu | apply zw | refine zR rfl ?_ | apply zx | apply zy | apply zJ | apply zL | apply zs | apply zT | apply zX | apply zV | apply zM | apply zN | apply zO | ((first | apply zm | apply zQ); (first | apply zn | apply zS | apply zP); simp only [go_sem, simprocAttr])
   refine zby 12 (by decide) (t0 := ?zt3) (up0 := ?zu3) ?zf3 ?zh3; (case zf3 => simp only [go_sem, simprocAttr]; (repeat' apply And.intro) <;> first | rfl | assumption | decide); simp only [List.reverse_cons, List.reverse_nil, List.nil_append, List.cons_append]
   exact hN _ ⟨_, _, zp rfl ⟨rfl, rfl, rfl, by rw [y0]; rfl, trivial⟩ trivial, b3⟩
  ·skip
   repeat' first | apply zg | apply zj | refine zf rfl fun K E hK hE => ?_ | refine zG rfl (by kernel_rfl) fun K E hK hE => ?_ | ((first | refine za fun κ η => ?_ | refine zo rfl fun κ η => ?_ | refine zr (by kernel_rfl) fun κ η => ?_ | refine zK (by kernel_rfl) rfl fun κ η => ?_); simp only [go_sem, simprocAttr, hd2, b3]; (repeat refine ⟨by (first | omega | assumption | exact ⟨_, rfl⟩ | exact ⟨_, rfl, rfl⟩), ?_⟩); refine η _ ?_; clear η κ) | (refine zd (hK _ ?_); clear hE hK E K) | refine zh true rfl (fun _ => ?_) (fun h => (by cases h)) | refine zh false rfl (fun h => (by cases h)) fun _ => ?_ | (refine zH (hK _ ?_); clear hE hK E K) | apply zq | apply zi | apply zt | apply zk | apply zu | apply zw | refine zR rfl ?_ | apply zx | apply zy | apply zJ | apply zL | apply zs | apply zT | apply zX | apply zV | apply zM | apply zN | apply zO | ((first | apply zm | apply zQ); (first | apply zn | apply zS | apply zP); simp only [go_sem, simprocAttr, hd2, b3])
   apply zb
   repeat' first | apply zg | apply zj | refine zf rfl fun K E hK hE => ?_ | refine zG rfl (by kernel_rfl) fun K E hK hE => ?_ | ((first | refine za fun κ η => ?_ | refine zo rfl fun κ η => ?_ | refine zr (by kernel_rfl) fun κ η => ?_ | refine zK (by kernel_rfl) rfl fun κ η => ?_); simp only [go_sem, simprocAttr]; (repeat refine ⟨by (first | omega | assumption | exact ⟨_, rfl⟩ | exact ⟨_, rfl, rfl⟩), ?_⟩); refine η _ ?_; clear η κ) | (refine zd (hK _ ?_); clear hE hK E K) | refine zh true rfl (fun _ => ?_) (fun h => (by cases h)) | refine zh false rfl (fun h => (by cases h)) fun _ => ?_ | (refine zH (hK _ ?_); clear hE hK E K) | apply zq | apply zi | apply zt | apply zk | apply zu | apply zw | refine zR rfl ?_ | apply zx | apply zy | apply zJ | apply zL | apply zs | apply zT | apply zX | apply zV | apply zM | apply zN | apply zO | ((first | apply zm | apply zQ); (first | apply zn | apply zS | apply zP); simp only [go_sem, simprocAttr])
   refine zby 12 (by decide) (t0 := ?zt4) (up0 := ?zu4) ?zf4 ?zh4; (case zf4 => simp only [go_sem, simprocAttr, hr2]; (repeat' apply And.intro) <;> first | rfl | assumption | decide); simp only [List.reverse_cons, List.reverse_nil, List.nil_append, List.cons_append]
   exact hN _ ⟨_, _, zp rfl ⟨rfl, rfl, rfl, rfl, trivial⟩ trivial, b3⟩
 rintro s ⟨F, G0, rfl, b3⟩
 generalize gvs c V (zaU c.las) = N1 at *
 generalize gvs c V c.outs = N2 at *
 repeat' first | apply zg | apply zj | refine zf rfl fun K E hK hE => ?_ | refine zG rfl (by kernel_rfl) fun K E hK hE => ?_ | ((first | refine za fun κ η => ?_ | refine zo rfl fun κ η => ?_ | refine zr (by kernel_rfl) fun κ η => ?_ | refine zK (by kernel_rfl) rfl fun κ η => ?_); simp only [go_sem, simprocAttr]; (repeat refine ⟨by (first | omega | assumption | exact ⟨_, rfl⟩ | exact ⟨_, rfl, rfl⟩), ?_⟩); refine η _ ?_; clear η κ) | (refine zd (hK _ ?_); clear hE hK E K) | apply zb | refine zh true rfl (fun _ => ?_) (fun h => (by cases h)) | refine zh false rfl (fun h => (by cases h)) fun _ => ?_ | (refine zH (hK _ ?_); clear hE hK E K) | apply zq | apply zi | apply zt | apply zk | apply zu | apply zw | refine zR rfl ?_ | apply zx | apply zy | apply zJ | apply zL | apply zs | apply zT | apply zX | apply zV | apply zM | apply zN | apply zO | ((first | apply zm | apply zQ); (first | apply zn | apply zS | apply zP); simp only [go_sem, simprocAttr])
end Go.Proofs.YtbhoeanfnbkenaaGreatDoor
