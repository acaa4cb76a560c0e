import Derived.Test.YtbhoeanfnbkenaaGreatDoorY2
import Derived.Test.YtbhoeanfnbkenaaGreatDoorR40
import Derived.Test.YtbhoeanfnbkenaaGreatDoorV4
import Derived.Test.YtbhoeanfnbkenaaGreatDoorY6
import Derived.Test.YtbhoeanfnbkenaaGreatDoorY12
namespace Go.Proofs.YtbhoeanfnbkenaaGreatDoor
open Go.RowKit Go.WideMaps
set_option maxRecDepth 100000
set_option linter.unusedSimpArgs false
variable (Hy : World → Prop)
attribute [local irreducible] zW zY cwp z1 z7 lpQ z8 asQ bdQ bdY zab zac zad zaa
theorem zeW (c : Ci) (hr : CRoom c) (hz : CSz c) : Ct Tryz.prog Hy 26 [.ag (cE c)] [.b (decide ((zav c).1 = 0))] := by
 have hck := zmC Hy c hr hz
 generalize (zav c).1 = e at *
 generalize (zav c).2 = s at *
 obtain ⟨ins, outs, las, gts⟩ := c
 simp only [cE] at hck ⊢
 refine zV (cls := _root_.id) zF zH Tryz.func26 rfl (by decide) (Nat.le_of_ble_eq_true rfl) ?_
 rw [show Tryz.f26.ntmps = 12 from rfl, zG]
 simp only [List.zipIdx_cons, List.zipIdx_nil, List.map_cons, List.map_nil, Nat.reduceAdd]
 repeat' first | apply zg | apply zi | refine zf rfl fun K E hK hE => ?_ | refine zC rfl (by kernel_rfl) fun K E hK hE => ?_ | ((first | refine za fun κ η => ?_ | refine zk rfl fun κ η => ?_ | refine zp (by kernel_rfl) fun κ η => ?_ | refine zB (by kernel_rfl) rfl fun κ η => ?_); simp only [go_sem, simprocAttr]; (repeat refine ⟨by (first | omega | assumption | exact ⟨_, rfl⟩ | exact ⟨_, rfl, rfl⟩), ?_⟩); refine η _ ?_; clear η κ) | (refine zd (hK _ ?_); clear hE hK E K) | apply zb | refine zh true rfl (fun _ => ?_) (fun h => (by cases h)) | refine zh false rfl (fun h => (by cases h)) fun _ => ?_ | (refine zD (hK _ ?_); clear hE hK E K) | apply zq | apply zj | apply zs | apply zm | apply zt | apply zu | refine zQ rfl ?_ | apply zw | apply zx | apply zE | apply zI | apply zr | apply zS | apply zU | apply zT | apply zK | apply zM | apply zN | ((first | apply zn | apply zP); (first | apply zo | apply zR | apply zO); simp only [go_sem, simprocAttr])
 (first | refine za fun κ η => ?_ | refine zk rfl fun κ η => ?_ | refine zp (by kernel_rfl) fun κ η => ?_ | refine zB (by kernel_rfl) rfl fun κ η => ?_); simp only [go_sem, simprocAttr]; refine ⟨_, hck, ?_⟩; simp only [go_sem, simprocAttr]; refine η _ ?_; clear η κ
 repeat' first | apply zg | apply zi | refine zf rfl fun K E hK hE => ?_ | refine zC rfl (by kernel_rfl) fun K E hK hE => ?_ | ((first | refine za fun κ η => ?_ | refine zk rfl fun κ η => ?_ | refine zp (by kernel_rfl) fun κ η => ?_ | refine zB (by kernel_rfl) rfl fun κ η => ?_); simp only [go_sem, simprocAttr]; (repeat refine ⟨by (first | omega | assumption | exact ⟨_, rfl⟩ | exact ⟨_, rfl, rfl⟩), ?_⟩); refine η _ ?_; clear η κ) | (refine zd (hK _ ?_); clear hE hK E K) | apply zb | refine zh true rfl (fun _ => ?_) (fun h => (by cases h)) | refine zh false rfl (fun h => (by cases h)) fun _ => ?_ | (refine zD (hK _ ?_); clear hE hK E K) | apply zq | apply zj | apply zs | apply zm | apply zt | apply zu | refine zQ rfl ?_ | apply zw | apply zx | apply zE | apply zI | apply zr | apply zS | apply zU | apply zT | apply zK | apply zM | apply zN | ((first | apply zn | apply zP); (first | apply zo | apply zR | apply zO); simp only [go_sem, simprocAttr])
theorem zjs {c : Ci} (h : MayC c) {x : La} (hx : x ∈ c.las) : x.init = 0 ∨ x.init = 1 ∨ x.init = 2 := by
 have := h.las x hx
 unfold zbU at this
 simp only [Bool.and_eq_true, decide_eq_true_eq] at this
 omega
set_option maxHeartbeats 4000000 in
theorem zjt (c : Ci) (picks : List Bool) (hr : CRoom c) (hz : CSz c) : Ct Tryz.prog Hy 9 [.ag (cE c), .sl (bl picks)] [.sl (bl (zbw c picks).1), .i .i64 (zbw c picks).2] := by
 have hri := zeW Hy c hr hz
 by_cases h0 : (zav c).1 = 0
 ·rw [show zbw c picks = (beg c.las picks c.las.length, 0) from if_pos h0]
  rw [decide_eq_true h0] at hri
  have hmc := ((zca c).1 h0).1
  obtain ⟨⟨hn, _⟩, _⟩ := zcf hmc
  have hl2 : c.las.length ≤ 200 := by omega
  obtain ⟨ins, outs, las, gts⟩ := c
  simp only [cE] at hri hl2 ⊢
  refine zV (cls := _root_.id) zF zH Tryz.func9 rfl (by decide) (Nat.le_of_ble_eq_true rfl) ?_
  rw [show Tryz.f9.ntmps = 51 from rfl, zG]
  simp only [List.zipIdx_cons, List.zipIdx_nil, List.map_cons, List.map_nil, Nat.reduceAdd]
  repeat' first | apply zg | apply zi | refine zf rfl fun K E hK hE => ?_ | refine zC rfl (by kernel_rfl) fun K E hK hE => ?_ | ((first | refine za fun κ η => ?_ | refine zk rfl fun κ η => ?_ | refine zp (by kernel_rfl) fun κ η => ?_ | refine zB (by kernel_rfl) rfl fun κ η => ?_); simp only [go_sem, simprocAttr]; (repeat refine ⟨by (first | omega | assumption | exact ⟨_, rfl⟩ | exact ⟨_, rfl, rfl⟩), ?_⟩); refine η _ ?_; clear η κ) | (refine zd (hK _ ?_); clear hE hK E K) | apply zb | refine zh true rfl (fun _ => ?_) (fun h => (by cases h)) | refine zh false rfl (fun h => (by cases h)) fun _ => ?_ | (refine zD (hK _ ?_); clear hE hK E K) | apply zq | apply zj | apply zs | apply zm | apply zt | apply zu | refine zQ rfl ?_ | apply zw | apply zx | apply zE | apply zI | apply zr | apply zS | apply zU | apply zT | apply zK | apply zM | apply zN | ((first | apply zn | apply zP); (first | apply zo | apply zR | apply zO); simp only [go_sem, simprocAttr])
  (first | refine za fun κ η => ?_ | refine zk rfl fun κ η => ?_ | refine zp (by kernel_rfl) fun κ η => ?_ | refine zB (by kernel_rfl) rfl fun κ η => ?_); simp only [go_sem, simprocAttr]; refine ⟨_, hri, ?_⟩; simp only [go_sem, simprocAttr]; refine η _ ?_; clear η κ
  repeat' first | apply zg | apply zi | refine zf rfl fun K E hK hE => ?_ | refine zC rfl (by kernel_rfl) fun K E hK hE => ?_ | ((first | refine za fun κ η => ?_ | refine zk rfl fun κ η => ?_ | refine zp (by kernel_rfl) fun κ η => ?_ | refine zB (by kernel_rfl) rfl fun κ η => ?_); simp only [go_sem, simprocAttr]; (repeat refine ⟨by (first | omega | assumption | exact ⟨_, rfl⟩ | exact ⟨_, rfl, rfl⟩), ?_⟩); refine η _ ?_; clear η κ) | (refine zd (hK _ ?_); clear hE hK E K) | apply zb | refine zh true rfl (fun _ => ?_) (fun h => (by cases h)) | refine zh false rfl (fun h => (by cases h)) fun _ => ?_ | (refine zD (hK _ ?_); clear hE hK E K) | apply zq | apply zj | apply zs | apply zm | apply zt | apply zu | refine zQ rfl ?_ | apply zw | apply zx | apply zE | apply zI | apply zr | apply zS | apply zU | apply zT | apply zK | apply zM | apply zN | ((first | apply zn | apply zP); (first | apply zo | apply zR | apply zO); simp only [go_sem, simprocAttr])
  refine zX (fun m s' => ∃ k : Nat, m = las.length - k ∧ k ≤ las.length ∧ ∃ F G0 yy, s' = nf 51 F G0 [(1, .t (.sl (bl picks))), (2, .ptr 2 1 0), (6, yy), (7, .t (.i .i64 (zan las k))), (8, .t (.i .i64 k))] [] ∧ G0 2 = ⟨1, .cells 26 [.t (.sl (sR ins)), .t (.sl (sR outs)), .t (.sl (lsR las)), .t (.sl (gsR gts))]⟩ ∧ Acc G0 49 4 1 (bl (beg las picks k)) yy) las.length ?_ ?_
  ·exact ⟨0, by omega, by omega, _, _, _, zy rfl ⟨rfl, rfl, rfl, rfl, rfl, trivial⟩ trivial, rfl, .inl ⟨rfl, rfl⟩⟩
  rintro m s' ⟨k, rfl, hk, F, G0, yy, rfl, b2, hy⟩
  by_cases hd : k < las.length
  ·have hd' : ((k : Int) < las.length) = True := eq_true (by omega)
   obtain ⟨x, hx⟩ : ∃ x, las[k]? = some x := ⟨_, List.getElem?_eq_getElem hd⟩
   have hx' := zbl hx
   have htw := ziJ hx
   have htl := zmP las k
   have hst : bl (beg las picks (k + 1)) = bl (beg las picks k) ++ [[.b (zb3 las picks k)]] := by rw [ziK, zbL]; rfl
   have hsa : zb3 las picks k = if x.init = 2 then picks.getD (zan las k) false else decide (x.init = 1) := by unfold zb3; rw [zfU hx]
   have hlen : (bl (beg las picks k)).length ≤ 1000 := by rw [zaJ, zfV]; omega
   have hbp := zaJ picks
   generalize zb3 las picks k = v at hst hsa
   generalize bl (beg las picks k) = rw0 at hst hlen hy
   by_cases c2 : x.init = 2
   ·have c2' := eq_true c2
    have c1' : (x.init = 1) = False := eq_false (by omega)
    rw [if_pos c2] at htw hsa
    by_cases c3 : zan las k < picks.length
    ·obtain ⟨p, hp⟩ : ∃ p, picks[zan las k]? = some p := ⟨_, List.getElem?_eq_getElem c3⟩
     obtain rfl : v = p := by rw [hsa, List.getD_eq_getElem?_getD, hp]; rfl
     have hp' := zbv hp
     have hpos : ((zan las k : Int) < (picks.length : Nat)) = True := eq_true (by omega)
     generalize hB : bl picks = B at *
     rcases hy with ⟨y0, rfl⟩ | ⟨q', rfl, hr2⟩
     ·rw [y0] at hst
      repeat' first | apply zg | apply zi | refine zf rfl fun K E hK hE => ?_ | refine zC rfl (by kernel_rfl) fun K E hK hE => ?_ | ((first | refine za fun κ η => ?_ | refine zk rfl fun κ η => ?_ | refine zp (by kernel_rfl) fun κ η => ?_ | refine zB (by kernel_rfl) rfl fun κ η => ?_); simp only [go_sem, simprocAttr, b2, hd', hx', c1', c2', decide_true, decide_false, hbp, hpos, hp']; (repeat refine ⟨by (first | omega | assumption | exact ⟨_, rfl⟩ | exact ⟨_, rfl, rfl⟩), ?_⟩); refine η _ ?_; clear η κ) | (refine zd (hK _ ?_); clear hE hK E K) | apply zb | refine zh true rfl (fun _ => ?_) (fun h => (by cases h)) | refine zh false rfl (fun h => (by cases h)) fun _ => ?_ | (refine zD (hK _ ?_); clear hE hK E K) | apply zq | apply zj | apply zs | apply zm | apply zt | apply zu | refine zQ rfl ?_ | apply zw | apply zx | apply zE | apply zI | apply zr | apply zS | apply zU | apply zT | apply zK | apply zM | apply zN | ((first | apply zn | apply zP); (first | apply zo | apply zR | apply zO); simp only [go_sem, simprocAttr, b2, hd', hx', c1', c2', decide_true, decide_false, hbp, hpos, hp'])
      exact ⟨las.length - (k + 1), by omega, k + 1, rfl, by omega, _, _, _, zy rfl ⟨rfl, rfl, rfl, by rw [htw]; rfl, rfl, trivial⟩ trivial, b2, .inr ⟨_, rfl, by rw [hst]; rfl⟩⟩
     ·repeat' first | apply zg | apply zi | refine zf rfl fun K E hK hE => ?_ | refine zC rfl (by kernel_rfl) fun K E hK hE => ?_ | ((first | refine za fun κ η => ?_ | refine zk rfl fun κ η => ?_ | refine zp (by kernel_rfl) fun κ η => ?_ | refine zB (by kernel_rfl) rfl fun κ η => ?_); simp only [go_sem, simprocAttr, b2, hd', hx', c1', c2', decide_true, decide_false, hbp, hpos, hp', hr2]; (repeat refine ⟨by (first | omega | assumption | exact ⟨_, rfl⟩ | exact ⟨_, rfl, rfl⟩), ?_⟩); refine η _ ?_; clear η κ) | (refine zd (hK _ ?_); clear hE hK E K) | apply zb | refine zh true rfl (fun _ => ?_) (fun h => (by cases h)) | refine zh false rfl (fun h => (by cases h)) fun _ => ?_ | (refine zD (hK _ ?_); clear hE hK E K) | apply zq | apply zj | apply zs | apply zm | apply zt | apply zu | refine zQ rfl ?_ | apply zw | apply zx | apply zE | apply zI | apply zr | apply zS | apply zU | apply zT | apply zK | apply zM | apply zN | ((first | apply zn | apply zP); (first | apply zo | apply zR | apply zO); simp only [go_sem, simprocAttr, b2, hd', hx', c1', c2', decide_true, decide_false, hbp, hpos, hp', hr2])
      exact ⟨las.length - (k + 1), by omega, k + 1, rfl, by omega, _, _, _, zy rfl ⟨rfl, rfl, rfl, by rw [htw]; rfl, rfl, trivial⟩ trivial, b2, .inr ⟨_, rfl, by rw [hst]; rfl⟩⟩
    ·obtain rfl : v = false := by rw [hsa, List.getD_eq_getElem?_getD, List.getElem?_eq_none (by omega)]; rfl
     have hpos : ((zan las k : Int) < (picks.length : Nat)) = False := eq_false (by omega)
     generalize hB : bl picks = B at *
     rcases hy with ⟨y0, rfl⟩ | ⟨q', rfl, hr2⟩
     ·rw [y0] at hst
      repeat' first | apply zg | apply zi | refine zf rfl fun K E hK hE => ?_ | refine zC rfl (by kernel_rfl) fun K E hK hE => ?_ | ((first | refine za fun κ η => ?_ | refine zk rfl fun κ η => ?_ | refine zp (by kernel_rfl) fun κ η => ?_ | refine zB (by kernel_rfl) rfl fun κ η => ?_); simp only [go_sem, simprocAttr, b2, hd', hx', c1', c2', decide_true, decide_false, hbp, hpos]; (repeat refine ⟨by (first | omega | assumption | exact ⟨_, rfl⟩ | exact ⟨_, rfl, rfl⟩), ?_⟩); refine η _ ?_; clear η κ) | (refine zd (hK _ ?_); clear hE hK E K) | apply zb | refine zh true rfl (fun _ => ?_) (fun h => (by cases h)) | refine zh false rfl (fun h => (by cases h)) fun _ => ?_ | (refine zD (hK _ ?_); clear hE hK E K) | apply zq | apply zj | apply zs | apply zm | apply zt | apply zu | refine zQ rfl ?_ | apply zw | apply zx | apply zE | apply zI | apply zr | apply zS | apply zU | apply zT | apply zK | apply zM | apply zN | ((first | apply zn | apply zP); (first | apply zo | apply zR | apply zO); simp only [go_sem, simprocAttr, b2, hd', hx', c1', c2', decide_true, decide_false, hbp, hpos])
      exact ⟨las.length - (k + 1), by omega, k + 1, rfl, by omega, _, _, _, zy rfl ⟨rfl, rfl, rfl, by rw [htw]; rfl, rfl, trivial⟩ trivial, b2, .inr ⟨_, rfl, by rw [hst]; rfl⟩⟩
     ·repeat' first | apply zg | apply zi | refine zf rfl fun K E hK hE => ?_ | refine zC rfl (by kernel_rfl) fun K E hK hE => ?_ | ((first | refine za fun κ η => ?_ | refine zk rfl fun κ η => ?_ | refine zp (by kernel_rfl) fun κ η => ?_ | refine zB (by kernel_rfl) rfl fun κ η => ?_); simp only [go_sem, simprocAttr, b2, hd', hx', c1', c2', decide_true, decide_false, hbp, hpos, hr2]; (repeat refine ⟨by (first | omega | assumption | exact ⟨_, rfl⟩ | exact ⟨_, rfl, rfl⟩), ?_⟩); refine η _ ?_; clear η κ) | (refine zd (hK _ ?_); clear hE hK E K) | apply zb | refine zh true rfl (fun _ => ?_) (fun h => (by cases h)) | refine zh false rfl (fun h => (by cases h)) fun _ => ?_ | (refine zD (hK _ ?_); clear hE hK E K) | apply zq | apply zj | apply zs | apply zm | apply zt | apply zu | refine zQ rfl ?_ | apply zw | apply zx | apply zE | apply zI | apply zr | apply zS | apply zU | apply zT | apply zK | apply zM | apply zN | ((first | apply zn | apply zP); (first | apply zo | apply zR | apply zO); simp only [go_sem, simprocAttr, b2, hd', hx', c1', c2', decide_true, decide_false, hbp, hpos, hr2])
      exact ⟨las.length - (k + 1), by omega, k + 1, rfl, by omega, _, _, _, zy rfl ⟨rfl, rfl, rfl, by rw [htw]; rfl, rfl, trivial⟩ trivial, b2, .inr ⟨_, rfl, by rw [hst]; rfl⟩⟩
   ·have c2' := eq_false c2
    rw [if_neg c2] at htw hsa
    replace htw : zan las (k + 1) = zan las k := htw
    subst hsa
    generalize hB : bl picks = B at *
    rcases hy with ⟨y0, rfl⟩ | ⟨q', rfl, hr2⟩
    ·rw [y0] at hst
     repeat' first | apply zg | apply zi | refine zf rfl fun K E hK hE => ?_ | refine zC rfl (by kernel_rfl) fun K E hK hE => ?_ | ((first | refine za fun κ η => ?_ | refine zk rfl fun κ η => ?_ | refine zp (by kernel_rfl) fun κ η => ?_ | refine zB (by kernel_rfl) rfl fun κ η => ?_); simp only [go_sem, simprocAttr, b2, hd', hx', c2', decide_true, decide_false]; (repeat refine ⟨by (first | omega | assumption | exact ⟨_, rfl⟩ | exact ⟨_, rfl, rfl⟩), ?_⟩); refine η _ ?_; clear η κ) | (refine zd (hK _ ?_); clear hE hK E K) | apply zb | refine zh true rfl (fun _ => ?_) (fun h => (by cases h)) | refine zh false rfl (fun h => (by cases h)) fun _ => ?_ | (refine zD (hK _ ?_); clear hE hK E K) | apply zq | apply zj | apply zs | apply zm | apply zt | apply zu | refine zQ rfl ?_ | apply zw | apply zx | apply zE | apply zI | apply zr | apply zS | apply zU | apply zT | apply zK | apply zM | apply zN | ((first | apply zn | apply zP); (first | apply zo | apply zR | apply zO); simp only [go_sem, simprocAttr, b2, hd', hx', c2', decide_true, decide_false])
     exact ⟨las.length - (k + 1), by omega, k + 1, rfl, by omega, _, _, _, zy rfl ⟨rfl, rfl, rfl, by rw [htw]; rfl, rfl, trivial⟩ trivial, b2, .inr ⟨_, rfl, by rw [hst]; rfl⟩⟩
    ·repeat' first | apply zg | apply zi | refine zf rfl fun K E hK hE => ?_ | refine zC rfl (by kernel_rfl) fun K E hK hE => ?_ | ((first | refine za fun κ η => ?_ | refine zk rfl fun κ η => ?_ | refine zp (by kernel_rfl) fun κ η => ?_ | refine zB (by kernel_rfl) rfl fun κ η => ?_); simp only [go_sem, simprocAttr, b2, hd', hx', c2', decide_true, decide_false, hr2]; (repeat refine ⟨by (first | omega | assumption | exact ⟨_, rfl⟩ | exact ⟨_, rfl, rfl⟩), ?_⟩); refine η _ ?_; clear η κ) | (refine zd (hK _ ?_); clear hE hK E K) | apply zb | refine zh true rfl (fun _ => ?_) (fun h => (by cases h)) | refine zh false rfl (fun h => (by cases h)) fun _ => ?_ | (refine zD (hK _ ?_); clear hE hK E K) | apply zq | apply zj | apply zs | apply zm | apply zt | apply zu | refine zQ rfl ?_ | apply zw | apply zx | apply zE | apply zI | apply zr | apply zS | apply zU | apply zT | apply zK | apply zM | apply zN | ((first | apply zn | apply zP); (first | apply zo | apply zR | apply zO); simp only [go_sem, simprocAttr, b2, hd', hx', c2', decide_true, decide_false, hr2])
     exact ⟨las.length - (k + 1), by omega, k + 1, rfl, by omega, _, _, _, zy rfl ⟨rfl, rfl, rfl, by rw [htw]; rfl, rfl, trivial⟩ trivial, b2, .inr ⟨_, rfl, by rw [hst]; rfl⟩⟩
  obtain rfl : k = las.length := by omega
  rcases hy with ⟨y0, rfl⟩ | ⟨q', rfl, hr2⟩
  ·rw [y0]
   repeat' first | apply zg | apply zi | refine zf rfl fun K E hK hE => ?_ | refine zC rfl (by kernel_rfl) fun K E hK hE => ?_ | ((first | refine za fun κ η => ?_ | refine zk rfl fun κ η => ?_ | refine zp (by kernel_rfl) fun κ η => ?_ | refine zB (by kernel_rfl) rfl fun κ η => ?_); simp only [go_sem, simprocAttr, b2, Int.lt_irrefl]; (repeat refine ⟨by (first | omega | assumption | exact ⟨_, rfl⟩ | exact ⟨_, rfl, rfl⟩), ?_⟩); refine η _ ?_; clear η κ) | (refine zd (hK _ ?_); clear hE hK E K) | apply zb | refine zh true rfl (fun _ => ?_) (fun h => (by cases h)) | refine zh false rfl (fun h => (by cases h)) fun _ => ?_ | (refine zD (hK _ ?_); clear hE hK E K) | apply zq | apply zj | apply zs | apply zm | apply zt | apply zu | refine zQ rfl ?_ | apply zw | apply zx | apply zE | apply zI | apply zr | apply zS | apply zU | apply zT | apply zK | apply zM | apply zN | ((first | apply zn | apply zP); (first | apply zo | apply zR | apply zO); simp only [go_sem, simprocAttr, b2, Int.lt_irrefl])
  ·repeat' first | apply zg | apply zi | refine zf rfl fun K E hK hE => ?_ | refine zC rfl (by kernel_rfl) fun K E hK hE => ?_ | ((first | refine za fun κ η => ?_ | refine zk rfl fun κ η => ?_ | refine zp (by kernel_rfl) fun κ η => ?_ | refine zB (by kernel_rfl) rfl fun κ η => ?_); simp only [go_sem, simprocAttr, b2, Int.lt_irrefl, hr2]; (repeat refine ⟨by (first | omega | assumption | exact ⟨_, rfl⟩ | exact ⟨_, rfl, rfl⟩), ?_⟩); refine η _ ?_; clear η κ) | (refine zd (hK _ ?_); clear hE hK E K) | apply zb | refine zh true rfl (fun _ => ?_) (fun h => (by cases h)) | refine zh false rfl (fun h => (by cases h)) fun _ => ?_ | (refine zD (hK _ ?_); clear hE hK E K) | apply zq | apply zj | apply zs | apply zm | apply zt | apply zu | refine zQ rfl ?_ | apply zw | apply zx | apply zE | apply zI | apply zr | apply zS | apply zU | apply zT | apply zK | apply zM | apply zN | ((first | apply zn | apply zP); (first | apply zo | apply zR | apply zO); simp only [go_sem, simprocAttr, b2, Int.lt_irrefl, hr2])
 ·rw [show zbw c picks = ([], 1) from if_neg h0]
  rw [decide_eq_false h0] at hri
  obtain ⟨ins, outs, las, gts⟩ := c
  simp only [cE] at hri ⊢
  refine zV (cls := _root_.id) zF zH Tryz.func9 rfl (by decide) (Nat.le_of_ble_eq_true rfl) ?_
  rw [show Tryz.f9.ntmps = 51 from rfl, zG]
  simp only [List.zipIdx_cons, List.zipIdx_nil, List.map_cons, List.map_nil, Nat.reduceAdd]
  repeat' first | apply zg | apply zi | refine zf rfl fun K E hK hE => ?_ | refine zC rfl (by kernel_rfl) fun K E hK hE => ?_ | ((first | refine za fun κ η => ?_ | refine zk rfl fun κ η => ?_ | refine zp (by kernel_rfl) fun κ η => ?_ | refine zB (by kernel_rfl) rfl fun κ η => ?_); simp only [go_sem, simprocAttr]; (repeat refine ⟨by (first | omega | assumption | exact ⟨_, rfl⟩ | exact ⟨_, rfl, rfl⟩), ?_⟩); refine η _ ?_; clear η κ) | (refine zd (hK _ ?_); clear hE hK E K) | apply zb | refine zh true rfl (fun _ => ?_) (fun h => (by cases h)) | refine zh false rfl (fun h => (by cases h)) fun _ => ?_ | (refine zD (hK _ ?_); clear hE hK E K) | apply zq | apply zj | apply zs | apply zm | apply zt | apply zu | refine zQ rfl ?_ | apply zw | apply zx | apply zE | apply zI | apply zr | apply zS | apply zU | apply zT | apply zK | apply zM | apply zN | ((first | apply zn | apply zP); (first | apply zo | apply zR | apply zO); simp only [go_sem, simprocAttr])
  (first | refine za fun κ η => ?_ | refine zk rfl fun κ η => ?_ | refine zp (by kernel_rfl) fun κ η => ?_ | refine zB (by kernel_rfl) rfl fun κ η => ?_); simp only [go_sem, simprocAttr]; refine ⟨_, hri, ?_⟩; simp only [go_sem, simprocAttr]; refine η _ ?_; clear η κ
  repeat' first | apply zg | apply zi | refine zf rfl fun K E hK hE => ?_ | refine zC rfl (by kernel_rfl) fun K E hK hE => ?_ | ((first | refine za fun κ η => ?_ | refine zk rfl fun κ η => ?_ | refine zp (by kernel_rfl) fun κ η => ?_ | refine zB (by kernel_rfl) rfl fun κ η => ?_); simp only [go_sem, simprocAttr]; (repeat refine ⟨by (first | omega | assumption | exact ⟨_, rfl⟩ | exact ⟨_, rfl, rfl⟩), ?_⟩); refine η _ ?_; clear η κ) | (refine zd (hK _ ?_); clear hE hK E K) | apply zb | refine zh true rfl (fun _ => ?_) (fun h => (by cases h)) | refine zh false rfl (fun h => (by cases h)) fun _ => ?_ | (refine zD (hK _ ?_); clear hE hK E K) | apply zq | apply zj | apply zs | apply zm | apply zt | apply zu | refine zQ rfl ?_ | apply zw | apply zx | apply zE | apply zI | apply zr | apply zS | apply zU | apply zT | apply zK | apply zM | apply zN | ((first | apply zn | apply zP); (first | apply zo | apply zR | apply zO); simp only [go_sem, simprocAttr])
  rfl
set_option maxHeartbeats 4000000 in
theorem zju (c : Ci) (st : List Bool) (hr : CRoom c) (hz : CSz c) : Ct Tryz.prog Hy 14 [.ag (cE c), .sl (bl st)] [.b (zbA c st)] := by
 have hri := zeW Hy c hr hz
 by_cases h0 : (zav c).1 = 0
 rotate_left
 ·rw [show zbA c st = false by unfold zbA; rw [decide_eq_false h0]; rfl]
  rw [decide_eq_false h0] at hri
  obtain ⟨ins, outs, las, gts⟩ := c
  simp only [cE] at hri ⊢
  refine zV (cls := _root_.id) zF zH Tryz.func14 rfl (by decide) (Nat.le_of_ble_eq_true rfl) ?_
  rw [show Tryz.f14.ntmps = 52 from rfl, zG]
  simp only [List.zipIdx_cons, List.zipIdx_nil, List.map_cons, List.map_nil, Nat.reduceAdd]
  repeat' first | apply zg | apply zi | refine zf rfl fun K E hK hE => ?_ | refine zC rfl (by kernel_rfl) fun K E hK hE => ?_ | ((first | refine za fun κ η => ?_ | refine zk rfl fun κ η => ?_ | refine zp (by kernel_rfl) fun κ η => ?_ | refine zB (by kernel_rfl) rfl fun κ η => ?_); simp only [go_sem, simprocAttr]; (repeat refine ⟨by (first | omega | assumption | exact ⟨_, rfl⟩ | exact ⟨_, rfl, rfl⟩), ?_⟩); refine η _ ?_; clear η κ) | (refine zd (hK _ ?_); clear hE hK E K) | apply zb | refine zh true rfl (fun _ => ?_) (fun h => (by cases h)) | refine zh false rfl (fun h => (by cases h)) fun _ => ?_ | (refine zD (hK _ ?_); clear hE hK E K) | apply zq | apply zj | apply zs | apply zm | apply zt | apply zu | refine zQ rfl ?_ | apply zw | apply zx | apply zE | apply zI | apply zr | apply zS | apply zU | apply zT | apply zK | apply zM | apply zN | ((first | apply zn | apply zP); (first | apply zo | apply zR | apply zO); simp only [go_sem, simprocAttr])
  (first | refine za fun κ η => ?_ | refine zk rfl fun κ η => ?_ | refine zp (by kernel_rfl) fun κ η => ?_ | refine zB (by kernel_rfl) rfl fun κ η => ?_); simp only [go_sem, simprocAttr]; refine ⟨_, hri, ?_⟩; simp only [go_sem, simprocAttr]; refine η _ ?_; clear η κ
  repeat' first | apply zg | apply zi | refine zf rfl fun K E hK hE => ?_ | refine zC rfl (by kernel_rfl) fun K E hK hE => ?_ | ((first | refine za fun κ η => ?_ | refine zk rfl fun κ η => ?_ | refine zp (by kernel_rfl) fun κ η => ?_ | refine zB (by kernel_rfl) rfl fun κ η => ?_); simp only [go_sem, simprocAttr]; (repeat refine ⟨by (first | omega | assumption | exact ⟨_, rfl⟩ | exact ⟨_, rfl, rfl⟩), ?_⟩); refine η _ ?_; clear η κ) | (refine zd (hK _ ?_); clear hE hK E K) | apply zb | refine zh true rfl (fun _ => ?_) (fun h => (by cases h)) | refine zh false rfl (fun h => (by cases h)) fun _ => ?_ | (refine zD (hK _ ?_); clear hE hK E K) | apply zq | apply zj | apply zs | apply zm | apply zt | apply zu | refine zQ rfl ?_ | apply zw | apply zx | apply zE | apply zI | apply zr | apply zS | apply zU | apply zT | apply zK | apply zM | apply zN | ((first | apply zn | apply zP); (first | apply zo | apply zR | apply zO); simp only [go_sem, simprocAttr])
 rw [decide_eq_true h0] at hri
 have hmc := ((zca c).1 h0).1
 obtain ⟨⟨hn, _⟩, _⟩ := zcf hmc
 have hin := fun x h => zjs hmc (x := x) h
 have hR : zbA c st = (decide (st.length = c.las.length) && (List.range c.las.length).all (zbt c.las st)) := by unfold zbA; rw [decide_eq_true h0]; rfl
 rw [hR]
 clear hR h0 hmc
 by_cases hl : st.length = c.las.length
 rotate_left
 ·rw [decide_eq_false hl]
  have hl' : ((st.length : Int) = c.las.length) = False := eq_false (by omega)
  obtain ⟨ins, outs, las, gts⟩ := c
  simp only [cE] at hri hl' ⊢
  refine zV (cls := _root_.id) zF zH Tryz.func14 rfl (by decide) (Nat.le_of_ble_eq_true rfl) ?_
  rw [show Tryz.f14.ntmps = 52 from rfl, zG]
  simp only [List.zipIdx_cons, List.zipIdx_nil, List.map_cons, List.map_nil, Nat.reduceAdd]
  repeat' first | apply zg | apply zi | refine zf rfl fun K E hK hE => ?_ | refine zC rfl (by kernel_rfl) fun K E hK hE => ?_ | ((first | refine za fun κ η => ?_ | refine zk rfl fun κ η => ?_ | refine zp (by kernel_rfl) fun κ η => ?_ | refine zB (by kernel_rfl) rfl fun κ η => ?_); simp only [go_sem, simprocAttr]; (repeat refine ⟨by (first | omega | assumption | exact ⟨_, rfl⟩ | exact ⟨_, rfl, rfl⟩), ?_⟩); refine η _ ?_; clear η κ) | (refine zd (hK _ ?_); clear hE hK E K) | apply zb | refine zh true rfl (fun _ => ?_) (fun h => (by cases h)) | refine zh false rfl (fun h => (by cases h)) fun _ => ?_ | (refine zD (hK _ ?_); clear hE hK E K) | apply zq | apply zj | apply zs | apply zm | apply zt | apply zu | refine zQ rfl ?_ | apply zw | apply zx | apply zE | apply zI | apply zr | apply zS | apply zU | apply zT | apply zK | apply zM | apply zN | ((first | apply zn | apply zP); (first | apply zo | apply zR | apply zO); simp only [go_sem, simprocAttr])
  (first | refine za fun κ η => ?_ | refine zk rfl fun κ η => ?_ | refine zp (by kernel_rfl) fun κ η => ?_ | refine zB (by kernel_rfl) rfl fun κ η => ?_); simp only [go_sem, simprocAttr]; refine ⟨_, hri, ?_⟩; simp only [go_sem, simprocAttr]; refine η _ ?_; clear η κ
  repeat' first | apply zg | apply zi | refine zf rfl fun K E hK hE => ?_ | refine zC rfl (by kernel_rfl) fun K E hK hE => ?_ | ((first | refine za fun κ η => ?_ | refine zk rfl fun κ η => ?_ | refine zp (by kernel_rfl) fun κ η => ?_ | refine zB (by kernel_rfl) rfl fun κ η => ?_); simp only [go_sem, simprocAttr, hl']; (repeat refine ⟨by (first | omega | assumption | exact ⟨_, rfl⟩ | exact ⟨_, rfl, rfl⟩), ?_⟩); refine η _ ?_; clear η κ) | (refine zd (hK _ ?_); clear hE hK E K) | apply zb | refine zh true rfl (fun _ => ?_) (fun h => (by cases h)) | refine zh false rfl (fun h => (by cases h)) fun _ => ?_ | (refine zD (hK _ ?_); clear hE hK E K) | apply zq | apply zj | apply zs | apply zm | apply zt | apply zu | refine zQ rfl ?_ | apply zw | apply zx | apply zE | apply zI | apply zr | apply zS | apply zU | apply zT | apply zK | apply zM | apply zN | ((first | apply zn | apply zP); (first | apply zo | apply zR | apply zO); simp only [go_sem, simprocAttr, hl'])
 rw [decide_eq_true hl, Bool.true_and]
 have hl' : ((st.length : Int) = c.las.length) = True := eq_true (by omega)
 obtain ⟨ins, outs, las, gts⟩ := c
 simp only [cE] at hri hl' hl hn hin ⊢
 obtain ⟨R, hR⟩ : ∃ R, R = (List.range las.length).all (zbt las st) := ⟨_, rfl⟩
 rw [← hR]
 refine zV (cls := _root_.id) zF zH Tryz.func14 rfl (by decide) (Nat.le_of_ble_eq_true rfl) ?_
 rw [show Tryz.f14.ntmps = 52 from rfl, zG]
 simp only [List.zipIdx_cons, List.zipIdx_nil, List.map_cons, List.map_nil, Nat.reduceAdd]
 repeat' first | apply zg | apply zi | refine zf rfl fun K E hK hE => ?_ | refine zC rfl (by kernel_rfl) fun K E hK hE => ?_ | ((first | refine za fun κ η => ?_ | refine zk rfl fun κ η => ?_ | refine zp (by kernel_rfl) fun κ η => ?_ | refine zB (by kernel_rfl) rfl fun κ η => ?_); simp only [go_sem, simprocAttr]; (repeat refine ⟨by (first | omega | assumption | exact ⟨_, rfl⟩ | exact ⟨_, rfl, rfl⟩), ?_⟩); refine η _ ?_; clear η κ) | (refine zd (hK _ ?_); clear hE hK E K) | apply zb | refine zh true rfl (fun _ => ?_) (fun h => (by cases h)) | refine zh false rfl (fun h => (by cases h)) fun _ => ?_ | (refine zD (hK _ ?_); clear hE hK E K) | apply zq | apply zj | apply zs | apply zm | apply zt | apply zu | refine zQ rfl ?_ | apply zw | apply zx | apply zE | apply zI | apply zr | apply zS | apply zU | apply zT | apply zK | apply zM | apply zN | ((first | apply zn | apply zP); (first | apply zo | apply zR | apply zO); simp only [go_sem, simprocAttr])
 (first | refine za fun κ η => ?_ | refine zk rfl fun κ η => ?_ | refine zp (by kernel_rfl) fun κ η => ?_ | refine zB (by kernel_rfl) rfl fun κ η => ?_); simp only [go_sem, simprocAttr]; refine ⟨_, hri, ?_⟩; simp only [go_sem, simprocAttr]; refine η _ ?_; clear η κ
 repeat' first | apply zg | apply zi | refine zf rfl fun K E hK hE => ?_ | refine zC rfl (by kernel_rfl) fun K E hK hE => ?_ | ((first | refine za fun κ η => ?_ | refine zk rfl fun κ η => ?_ | refine zp (by kernel_rfl) fun κ η => ?_ | refine zB (by kernel_rfl) rfl fun κ η => ?_); simp only [go_sem, simprocAttr, hl']; (repeat refine ⟨by (first | omega | assumption | exact ⟨_, rfl⟩ | exact ⟨_, rfl, rfl⟩), ?_⟩); refine η _ ?_; clear η κ) | (refine zd (hK _ ?_); clear hE hK E K) | apply zb | refine zh true rfl (fun _ => ?_) (fun h => (by cases h)) | refine zh false rfl (fun h => (by cases h)) fun _ => ?_ | (refine zD (hK _ ?_); clear hE hK E K) | apply zq | apply zj | apply zs | apply zm | apply zt | apply zu | refine zQ rfl ?_ | apply zw | apply zx | apply zE | apply zI | apply zr | apply zS | apply zU | apply zT | apply zK | apply zM | apply zN | ((first | apply zn | apply zP); (first | apply zo | apply zR | apply zO); simp only [go_sem, simprocAttr, hl'])
 have hbp := zaJ st
 refine zX (fun m s' => ∃ k : Nat, m = las.length - k ∧ k ≤ las.length ∧ (∀ j, j < k → zbt las st j = true) ∧ ∃ F G0, s' = nf 52 F G0 [(1, .t (.sl (bl st))), (2, .ptr 2 1 0), (5, .t (.i .i64 k))] [] ∧ G0 2 = ⟨1, .cells 26 [.t (.sl (sR ins)), .t (.sl (sR outs)), .t (.sl (lsR las)), .t (.sl (gsR gts))]⟩) las.length ?_ ?_
 ·exact ⟨0, by omega, by omega, fun j hj => absurd hj (Nat.not_lt_zero j), _, _, zy rfl ⟨rfl, rfl, rfl, trivial⟩ trivial, rfl⟩
 rintro m s' ⟨k, rfl, hk, hno, F, G0, rfl, b2⟩
 by_cases hd : k < las.length
 ·have hd' : ((k : Int) < st.length) = True := eq_true (by omega)
  obtain ⟨x, hx⟩ : ∃ x, las[k]? = some x := ⟨_, List.getElem?_eq_getElem hd⟩
  obtain ⟨v, hv⟩ : ∃ v, st[k]? = some v := ⟨_, List.getElem?_eq_getElem (by omega)⟩
  have hx' := zbl hx
  have hv' := zbv hv
  have hok := zhK hx hv
  have hbad : zbt las st k = false → R = false := fun h => by
   rw [hR, List.all_eq_false]
   exact ⟨k, List.mem_range.2 hd, by rw [h]; decide⟩
  have hnext : zbt las st k = true → ∀ j, j < k + 1 → zbt las st j = true := fun h j hj => by
   rcases Nat.lt_or_eq_of_le (Nat.lt_succ_iff.1 hj) with h1 | rfl
   ·exact hno j h1
   ·exact h
  generalize hB : bl st = B at *
  rcases hin x (List.mem_of_getElem? hx) with c2 | c2 | c2
  ·have e0 : (x.init = 0) = True := eq_true (by omega)
   have e1 : (x.init = 1) = False := eq_false (by omega)
   have e2 : (x.init = 2) = False := eq_false (by omega)
   simp only [e1, e2, decide_true, decide_false] at hok
   cases v with
   | true =>
    obtain rfl := hbad hok
    repeat' first | apply zg | apply zi | refine zf rfl fun K E hK hE => ?_ | refine zC rfl (by kernel_rfl) fun K E hK hE => ?_ | ((first | refine za fun κ η => ?_ | refine zk rfl fun κ η => ?_ | refine zp (by kernel_rfl) fun κ η => ?_ | refine zB (by kernel_rfl) rfl fun κ η => ?_); simp only [go_sem, simprocAttr, b2, hbp, hd', hx', hv', e0, e1, decide_true, decide_false]; (repeat refine ⟨by (first | omega | assumption | exact ⟨_, rfl⟩ | exact ⟨_, rfl, rfl⟩), ?_⟩); refine η _ ?_; clear η κ) | (refine zd (hK _ ?_); clear hE hK E K) | apply zb | refine zh true rfl (fun _ => ?_) (fun h => (by cases h)) | refine zh false rfl (fun h => (by cases h)) fun _ => ?_ | (refine zD (hK _ ?_); clear hE hK E K) | apply zq | apply zj | apply zs | apply zm | apply zt | apply zu | refine zQ rfl ?_ | apply zw | apply zx | apply zE | apply zI | apply zr | apply zS | apply zU | apply zT | apply zK | apply zM | apply zN | ((first | apply zn | apply zP); (first | apply zo | apply zR | apply zO); simp only [go_sem, simprocAttr, b2, hbp, hd', hx', hv', e0, e1, decide_true, decide_false])
   | false =>
    repeat' first | apply zg | apply zi | refine zf rfl fun K E hK hE => ?_ | refine zC rfl (by kernel_rfl) fun K E hK hE => ?_ | ((first | refine za fun κ η => ?_ | refine zk rfl fun κ η => ?_ | refine zp (by kernel_rfl) fun κ η => ?_ | refine zB (by kernel_rfl) rfl fun κ η => ?_); simp only [go_sem, simprocAttr, b2, hbp, hd', hx', hv', e0, e1, decide_true, decide_false]; (repeat refine ⟨by (first | omega | assumption | exact ⟨_, rfl⟩ | exact ⟨_, rfl, rfl⟩), ?_⟩); refine η _ ?_; clear η κ) | (refine zd (hK _ ?_); clear hE hK E K) | apply zb | refine zh true rfl (fun _ => ?_) (fun h => (by cases h)) | refine zh false rfl (fun h => (by cases h)) fun _ => ?_ | (refine zD (hK _ ?_); clear hE hK E K) | apply zq | apply zj | apply zs | apply zm | apply zt | apply zu | refine zQ rfl ?_ | apply zw | apply zx | apply zE | apply zI | apply zr | apply zS | apply zU | apply zT | apply zK | apply zM | apply zN | ((first | apply zn | apply zP); (first | apply zo | apply zR | apply zO); simp only [go_sem, simprocAttr, b2, hbp, hd', hx', hv', e0, e1, decide_true, decide_false])
    exact ⟨las.length - (k + 1), by omega, k + 1, rfl, by omega, hnext hok, _, _, zy rfl ⟨rfl, rfl, rfl, trivial⟩ trivial, b2⟩
  ·have e0 : (x.init = 0) = False := eq_false (by omega)
   have e1 : (x.init = 1) = True := eq_true (by omega)
   have e2 : (x.init = 2) = False := eq_false (by omega)
   simp only [e1, e2, decide_true, decide_false] at hok
   cases v with
   | true =>
    repeat' first | apply zg | apply zi | refine zf rfl fun K E hK hE => ?_ | refine zC rfl (by kernel_rfl) fun K E hK hE => ?_ | ((first | refine za fun κ η => ?_ | refine zk rfl fun κ η => ?_ | refine zp (by kernel_rfl) fun κ η => ?_ | refine zB (by kernel_rfl) rfl fun κ η => ?_); simp only [go_sem, simprocAttr, b2, hbp, hd', hx', hv', e0, e1, decide_true, decide_false]; (repeat refine ⟨by (first | omega | assumption | exact ⟨_, rfl⟩ | exact ⟨_, rfl, rfl⟩), ?_⟩); refine η _ ?_; clear η κ) | (refine zd (hK _ ?_); clear hE hK E K) | apply zb | refine zh true rfl (fun _ => ?_) (fun h => (by cases h)) | refine zh false rfl (fun h => (by cases h)) fun _ => ?_ | (refine zD (hK _ ?_); clear hE hK E K) | apply zq | apply zj | apply zs | apply zm | apply zt | apply zu | refine zQ rfl ?_ | apply zw | apply zx | apply zE | apply zI | apply zr | apply zS | apply zU | apply zT | apply zK | apply zM | apply zN | ((first | apply zn | apply zP); (first | apply zo | apply zR | apply zO); simp only [go_sem, simprocAttr, b2, hbp, hd', hx', hv', e0, e1, decide_true, decide_false])
    exact ⟨las.length - (k + 1), by omega, k + 1, rfl, by omega, hnext hok, _, _, zy rfl ⟨rfl, rfl, rfl, trivial⟩ trivial, b2⟩
   | false =>
    obtain rfl := hbad hok
    repeat' first | apply zg | apply zi | refine zf rfl fun K E hK hE => ?_ | refine zC rfl (by kernel_rfl) fun K E hK hE => ?_ | ((first | refine za fun κ η => ?_ | refine zk rfl fun κ η => ?_ | refine zp (by kernel_rfl) fun κ η => ?_ | refine zB (by kernel_rfl) rfl fun κ η => ?_); simp only [go_sem, simprocAttr, b2, hbp, hd', hx', hv', e0, e1, decide_true, decide_false]; (repeat refine ⟨by (first | omega | assumption | exact ⟨_, rfl⟩ | exact ⟨_, rfl, rfl⟩), ?_⟩); refine η _ ?_; clear η κ) | (refine zd (hK _ ?_); clear hE hK E K) | apply zb | refine zh true rfl (fun _ => ?_) (fun h => (by cases h)) | refine zh false rfl (fun h => (by cases h)) fun _ => ?_ | (refine zD (hK _ ?_); clear hE hK E K) | apply zq | apply zj | apply zs | apply zm | apply zt | apply zu | refine zQ rfl ?_ | apply zw | apply zx | apply zE | apply zI | apply zr | apply zS | apply zU | apply zT | apply zK | apply zM | apply zN | ((first | apply zn | apply zP); (first | apply zo | apply zR | apply zO); simp only [go_sem, simprocAttr, b2, hbp, hd', hx', hv', e0, e1, decide_true, decide_false])
  ·have e0 : (x.init = 0) = False := eq_false (by omega)
   have e1 : (x.init = 1) = False := eq_false (by omega)
   have e2 : (x.init = 2) = True := eq_true (by omega)
   simp only [e1, e2, decide_true, decide_false] at hok
   cases v with
   | true =>
    repeat' first | apply zg | apply zi | refine zf rfl fun K E hK hE => ?_ | refine zC rfl (by kernel_rfl) fun K E hK hE => ?_ | ((first | refine za fun κ η => ?_ | refine zk rfl fun κ η => ?_ | refine zp (by kernel_rfl) fun κ η => ?_ | refine zB (by kernel_rfl) rfl fun κ η => ?_); simp only [go_sem, simprocAttr, b2, hbp, hd', hx', hv', e0, e1, decide_true, decide_false]; (repeat refine ⟨by (first | omega | assumption | exact ⟨_, rfl⟩ | exact ⟨_, rfl, rfl⟩), ?_⟩); refine η _ ?_; clear η κ) | (refine zd (hK _ ?_); clear hE hK E K) | apply zb | refine zh true rfl (fun _ => ?_) (fun h => (by cases h)) | refine zh false rfl (fun h => (by cases h)) fun _ => ?_ | (refine zD (hK _ ?_); clear hE hK E K) | apply zq | apply zj | apply zs | apply zm | apply zt | apply zu | refine zQ rfl ?_ | apply zw | apply zx | apply zE | apply zI | apply zr | apply zS | apply zU | apply zT | apply zK | apply zM | apply zN | ((first | apply zn | apply zP); (first | apply zo | apply zR | apply zO); simp only [go_sem, simprocAttr, b2, hbp, hd', hx', hv', e0, e1, decide_true, decide_false])
    exact ⟨las.length - (k + 1), by omega, k + 1, rfl, by omega, hnext hok, _, _, zy rfl ⟨rfl, rfl, rfl, trivial⟩ trivial, b2⟩
   | false =>
    repeat' first | apply zg | apply zi | refine zf rfl fun K E hK hE => ?_ | refine zC rfl (by kernel_rfl) fun K E hK hE => ?_ | ((first | refine za fun κ η => ?_ | refine zk rfl fun κ η => ?_ | refine zp (by kernel_rfl) fun κ η => ?_ | refine zB (by kernel_rfl) rfl fun κ η => ?_); simp only [go_sem, simprocAttr, b2, hbp, hd', hx', hv', e0, e1, decide_true, decide_false]; (repeat refine ⟨by (first | omega | assumption | exact ⟨_, rfl⟩ | exact ⟨_, rfl, rfl⟩), ?_⟩); refine η _ ?_; clear η κ) | (refine zd (hK _ ?_); clear hE hK E K) | apply zb | refine zh true rfl (fun _ => ?_) (fun h => (by cases h)) | refine zh false rfl (fun h => (by cases h)) fun _ => ?_ | (refine zD (hK _ ?_); clear hE hK E K) | apply zq | apply zj | apply zs | apply zm | apply zt | apply zu | refine zQ rfl ?_ | apply zw | apply zx | apply zE | apply zI | apply zr | apply zS | apply zU | apply zT | apply zK | apply zM | apply zN | ((first | apply zn | apply zP); (first | apply zo | apply zR | apply zO); simp only [go_sem, simprocAttr, b2, hbp, hd', hx', hv', e0, e1, decide_true, decide_false])
    exact ⟨las.length - (k + 1), by omega, k + 1, rfl, by omega, hnext hok, _, _, zy rfl ⟨rfl, rfl, rfl, trivial⟩ trivial, b2⟩
 have hd' : ((k : Int) < st.length) = False := eq_false (by omega)
 obtain rfl : R = true := by
  rw [hR, List.all_eq_true]
  exact fun j hj => hno j (by have := List.mem_range.1 hj; omega)
 repeat' first | apply zg | apply zi | refine zf rfl fun K E hK hE => ?_ | refine zC rfl (by kernel_rfl) fun K E hK hE => ?_ | ((first | refine za fun κ η => ?_ | refine zk rfl fun κ η => ?_ | refine zp (by kernel_rfl) fun κ η => ?_ | refine zB (by kernel_rfl) rfl fun κ η => ?_); simp only [go_sem, simprocAttr, b2, hbp, hd']; (repeat refine ⟨by (first | omega | assumption | exact ⟨_, rfl⟩ | exact ⟨_, rfl, rfl⟩), ?_⟩); refine η _ ?_; clear η κ) | (refine zd (hK _ ?_); clear hE hK E K) | apply zb | refine zh true rfl (fun _ => ?_) (fun h => (by cases h)) | refine zh false rfl (fun h => (by cases h)) fun _ => ?_ | (refine zD (hK _ ?_); clear hE hK E K) | apply zq | apply zj | apply zs | apply zm | apply zt | apply zu | refine zQ rfl ?_ | apply zw | apply zx | apply zE | apply zI | apply zr | apply zS | apply zU | apply zT | apply zK | apply zM | apply zN | ((first | apply zn | apply zP); (first | apply zo | apply zR | apply zO); simp only [go_sem, simprocAttr, b2, hbp, hd'])
end Go.Proofs.YtbhoeanfnbkenaaGreatDoor
namespace Go.Proofs.YtbhoeanfnbkenaaGreatDoor
open Go.RowKit Go.WideMaps
set_option maxRecDepth 100000
set_option linter.unusedSimpArgs false
variable (Hy : World → Prop)
attribute [local irreducible] zW zY cwp z1 z7 lpQ z8 asQ bdQ bdY zab zac zad zaa
set_option maxHeartbeats 16000000 in
theorem zio (c : Ci) (st ii : List Bool) (hr : CRoom c) (hz : CSz c) : Ct Tryz.prog Hy 11 [.ag (cE c), .sl (bl st), .sl (bl ii)] [.sl (bl (zaY c st ii).1), .i .i64 (zaY c st ii).2] := by
 have hri := zeW Hy c hr hz
 by_cases h0 : (zav c).1 = 0
 rotate_left
 ·rw [show zaY c st ii = ([], 1) from if_neg h0]
  rw [decide_eq_false h0] at hri
  obtain ⟨ins, outs, las, gts⟩ := c
  simp only [cE] at hri ⊢
  refine zV (cls := _root_.id) zF zH Tryz.func11 rfl (by decide) (Nat.le_of_ble_eq_true rfl) ?_
  rw [show Tryz.f11.ntmps = 109 from rfl, zG]
  simp only [List.zipIdx_cons, List.zipIdx_nil, List.map_cons, List.map_nil, Nat.reduceAdd]
  repeat' first | apply zg | apply zi | refine zf rfl fun K E hK hE => ?_ | refine zC rfl (by kernel_rfl) fun K E hK hE => ?_ | ((first | refine za fun κ η => ?_ | refine zk rfl fun κ η => ?_ | refine zp (by kernel_rfl) fun κ η => ?_ | refine zB (by kernel_rfl) rfl fun κ η => ?_); simp only [go_sem, simprocAttr]; (repeat refine ⟨by (first | omega | assumption | exact ⟨_, rfl⟩ | exact ⟨_, rfl, rfl⟩), ?_⟩); refine η _ ?_; clear η κ) | (refine zd (hK _ ?_); clear hE hK E K) | apply zb | refine zh true rfl (fun _ => ?_) (fun h => (by cases h)) | refine zh false rfl (fun h => (by cases h)) fun _ => ?_ | (refine zD (hK _ ?_); clear hE hK E K) | apply zq | apply zj | apply zs | apply zm | apply zt | apply zu | refine zQ rfl ?_ | apply zw | apply zx | apply zE | apply zI | apply zr | apply zS | apply zU | apply zT | apply zK | apply zM | apply zN | ((first | apply zn | apply zP); (first | apply zo | apply zR | apply zO); simp only [go_sem, simprocAttr])
  (first | refine za fun κ η => ?_ | refine zk rfl fun κ η => ?_ | refine zp (by kernel_rfl) fun κ η => ?_ | refine zB (by kernel_rfl) rfl fun κ η => ?_); simp only [go_sem, simprocAttr]; refine ⟨_, hri, ?_⟩; simp only [go_sem, simprocAttr]; refine η _ ?_; clear η κ
  repeat' first | apply zg | apply zi | refine zf rfl fun K E hK hE => ?_ | refine zC rfl (by kernel_rfl) fun K E hK hE => ?_ | ((first | refine za fun κ η => ?_ | refine zk rfl fun κ η => ?_ | refine zp (by kernel_rfl) fun κ η => ?_ | refine zB (by kernel_rfl) rfl fun κ η => ?_); simp only [go_sem, simprocAttr]; (repeat refine ⟨by (first | omega | assumption | exact ⟨_, rfl⟩ | exact ⟨_, rfl, rfl⟩), ?_⟩); refine η _ ?_; clear η κ) | (refine zd (hK _ ?_); clear hE hK E K) | apply zb | refine zh true rfl (fun _ => ?_) (fun h => (by cases h)) | refine zh false rfl (fun h => (by cases h)) fun _ => ?_ | (refine zD (hK _ ?_); clear hE hK E K) | apply zq | apply zj | apply zs | apply zm | apply zt | apply zu | refine zQ rfl ?_ | apply zw | apply zx | apply zE | apply zI | apply zr | apply zS | apply zU | apply zT | apply zK | apply zM | apply zN | ((first | apply zn | apply zP); (first | apply zo | apply zR | apply zO); simp only [go_sem, simprocAttr])
  rfl
 rw [decide_eq_true h0] at hri
 have hbs := zaJ st
 have hbi := zaJ ii
 by_cases hs : st.length = c.las.length
 rotate_left
 ·rw [show zaY c st ii = ([], 11) from (if_pos h0).trans (if_neg fun h => hs h.1)]
  have hs' : ((st.length : Int) = c.las.length) = False := eq_false (by omega)
  obtain ⟨ins, outs, las, gts⟩ := c
  simp only [cE] at hri hs' ⊢
  generalize bl st = B1 at *
  refine zV (cls := _root_.id) zF zH Tryz.func11 rfl (by decide) (Nat.le_of_ble_eq_true rfl) ?_
  rw [show Tryz.f11.ntmps = 109 from rfl, zG]
  simp only [List.zipIdx_cons, List.zipIdx_nil, List.map_cons, List.map_nil, Nat.reduceAdd]
  repeat' first | apply zg | apply zi | refine zf rfl fun K E hK hE => ?_ | refine zC rfl (by kernel_rfl) fun K E hK hE => ?_ | ((first | refine za fun κ η => ?_ | refine zk rfl fun κ η => ?_ | refine zp (by kernel_rfl) fun κ η => ?_ | refine zB (by kernel_rfl) rfl fun κ η => ?_); simp only [go_sem, simprocAttr]; (repeat refine ⟨by (first | omega | assumption | exact ⟨_, rfl⟩ | exact ⟨_, rfl, rfl⟩), ?_⟩); refine η _ ?_; clear η κ) | (refine zd (hK _ ?_); clear hE hK E K) | apply zb | refine zh true rfl (fun _ => ?_) (fun h => (by cases h)) | refine zh false rfl (fun h => (by cases h)) fun _ => ?_ | (refine zD (hK _ ?_); clear hE hK E K) | apply zq | apply zj | apply zs | apply zm | apply zt | apply zu | refine zQ rfl ?_ | apply zw | apply zx | apply zE | apply zI | apply zr | apply zS | apply zU | apply zT | apply zK | apply zM | apply zN | ((first | apply zn | apply zP); (first | apply zo | apply zR | apply zO); simp only [go_sem, simprocAttr])
  (first | refine za fun κ η => ?_ | refine zk rfl fun κ η => ?_ | refine zp (by kernel_rfl) fun κ η => ?_ | refine zB (by kernel_rfl) rfl fun κ η => ?_); simp only [go_sem, simprocAttr]; refine ⟨_, hri, ?_⟩; simp only [go_sem, simprocAttr]; refine η _ ?_; clear η κ
  repeat' first | apply zg | apply zi | refine zf rfl fun K E hK hE => ?_ | refine zC rfl (by kernel_rfl) fun K E hK hE => ?_ | ((first | refine za fun κ η => ?_ | refine zk rfl fun κ η => ?_ | refine zp (by kernel_rfl) fun κ η => ?_ | refine zB (by kernel_rfl) rfl fun κ η => ?_); simp only [go_sem, simprocAttr, hbs, hs']; (repeat refine ⟨by (first | omega | assumption | exact ⟨_, rfl⟩ | exact ⟨_, rfl, rfl⟩), ?_⟩); refine η _ ?_; clear η κ) | (refine zd (hK _ ?_); clear hE hK E K) | apply zb | refine zh true rfl (fun _ => ?_) (fun h => (by cases h)) | refine zh false rfl (fun h => (by cases h)) fun _ => ?_ | (refine zD (hK _ ?_); clear hE hK E K) | apply zq | apply zj | apply zs | apply zm | apply zt | apply zu | refine zQ rfl ?_ | apply zw | apply zx | apply zE | apply zI | apply zr | apply zS | apply zU | apply zT | apply zK | apply zM | apply zN | ((first | apply zn | apply zP); (first | apply zo | apply zR | apply zO); simp only [go_sem, simprocAttr, hbs, hs'])
  rfl
 have hs' : ((st.length : Int) = c.las.length) = True := eq_true (by omega)
 by_cases hi : ii.length = c.ins.length
 rotate_left
 ·rw [show zaY c st ii = ([], 11) from (if_pos h0).trans (if_neg fun h => hi h.2)]
  have hi' : ((ii.length : Int) = c.ins.length) = False := eq_false (by omega)
  obtain ⟨ins, outs, las, gts⟩ := c
  simp only [cE] at hri hs' hi' ⊢
  generalize bl st = B1 at *
  generalize bl ii = B2 at *
  refine zV (cls := _root_.id) zF zH Tryz.func11 rfl (by decide) (Nat.le_of_ble_eq_true rfl) ?_
  rw [show Tryz.f11.ntmps = 109 from rfl, zG]
  simp only [List.zipIdx_cons, List.zipIdx_nil, List.map_cons, List.map_nil, Nat.reduceAdd]
  repeat' first | apply zg | apply zi | refine zf rfl fun K E hK hE => ?_ | refine zC rfl (by kernel_rfl) fun K E hK hE => ?_ | ((first | refine za fun κ η => ?_ | refine zk rfl fun κ η => ?_ | refine zp (by kernel_rfl) fun κ η => ?_ | refine zB (by kernel_rfl) rfl fun κ η => ?_); simp only [go_sem, simprocAttr]; (repeat refine ⟨by (first | omega | assumption | exact ⟨_, rfl⟩ | exact ⟨_, rfl, rfl⟩), ?_⟩); refine η _ ?_; clear η κ) | (refine zd (hK _ ?_); clear hE hK E K) | apply zb | refine zh true rfl (fun _ => ?_) (fun h => (by cases h)) | refine zh false rfl (fun h => (by cases h)) fun _ => ?_ | (refine zD (hK _ ?_); clear hE hK E K) | apply zq | apply zj | apply zs | apply zm | apply zt | apply zu | refine zQ rfl ?_ | apply zw | apply zx | apply zE | apply zI | apply zr | apply zS | apply zU | apply zT | apply zK | apply zM | apply zN | ((first | apply zn | apply zP); (first | apply zo | apply zR | apply zO); simp only [go_sem, simprocAttr])
  (first | refine za fun κ η => ?_ | refine zk rfl fun κ η => ?_ | refine zp (by kernel_rfl) fun κ η => ?_ | refine zB (by kernel_rfl) rfl fun κ η => ?_); simp only [go_sem, simprocAttr]; refine ⟨_, hri, ?_⟩; simp only [go_sem, simprocAttr]; refine η _ ?_; clear η κ
  repeat' first | apply zg | apply zi | refine zf rfl fun K E hK hE => ?_ | refine zC rfl (by kernel_rfl) fun K E hK hE => ?_ | ((first | refine za fun κ η => ?_ | refine zk rfl fun κ η => ?_ | refine zp (by kernel_rfl) fun κ η => ?_ | refine zB (by kernel_rfl) rfl fun κ η => ?_); simp only [go_sem, simprocAttr, hbs, hs', hbi, hi']; (repeat refine ⟨by (first | omega | assumption | exact ⟨_, rfl⟩ | exact ⟨_, rfl, rfl⟩), ?_⟩); refine η _ ?_; clear η κ) | (refine zd (hK _ ?_); clear hE hK E K) | apply zb | refine zh true rfl (fun _ => ?_) (fun h => (by cases h)) | refine zh false rfl (fun h => (by cases h)) fun _ => ?_ | (refine zD (hK _ ?_); clear hE hK E K) | apply zq | apply zj | apply zs | apply zm | apply zt | apply zu | refine zQ rfl ?_ | apply zw | apply zx | apply zE | apply zI | apply zr | apply zS | apply zU | apply zT | apply zK | apply zM | apply zN | ((first | apply zn | apply zP); (first | apply zo | apply zR | apply zO); simp only [go_sem, simprocAttr, hbs, hs', hbi, hi'])
  rfl
 have hi' : ((ii.length : Int) = c.ins.length) = True := eq_true (by omega)
 rw [show zaY c st ii = (zaw c st ii, 0) from (if_pos h0).trans (if_pos ⟨hs, hi⟩)]
 have hm := ((zca c).1 h0).1
 obtain ⟨⟨h200, _⟩, hg8⟩ := zcf hm
 have hmay := hm.may
 have hlook : ∀ s ∈ z2 c, plC c s = (plN c s : Nat) ∧ plN c s < (z2 c).length := fun s h => by
  have h1 := zeq hmay h
  exact ⟨h1.2, (List.getElem?_eq_some_iff.1 h1.1).1⟩
 have hrp : ∀ s ∈ z2 c, Ct Tryz.prog Hy 30 [.ag (cE c), .s s] [.i .i64 (plN c s : Nat)] := fun s h => by
  have := zf9 Hy c s ⟨by omega, by have := hr.outs; omega, by omega, by omega⟩
  rwa [(hlook s h).1] at this
 rw [zb5] at hlook
 have hused : ∀ k, k < c.gts.length → ∀ s ∈ (gat c.gts k).ins, s ∈ z2 c := fun k hk s h => hm.used s (by
  unfold zbh
  exact List.mem_append_right _ (List.mem_append_right _ (List.mem_flatMap.2 ⟨_, zcN hk, h⟩)))
 have hlt := (zed c.gts).lt
 have hgB : ∀ k, k < c.gts.length → zaM (gat c.gts k) = true := fun k hk => hm.gts _ (zcN hk)
 have hg8' : ∀ k, k < c.gts.length → (gat c.gts k).ins.length ≤ 8 ∧ (gat c.gts k).rows.length ≤ 128 := fun k hk => hg8 _ (zcN hk)
 have hvs := fun m k => zhL (c := c) (st := st) (ii := ii) (m := m) (k := k)
 have hvl := fun m => zdQ c st ii m
 have hv0 : bl (zbB c st ii 0) = bl ii ++ bl st ++ List.replicate c.gts.length [.b false] := by
  show bl (ii ++ st ++ List.replicate c.gts.length false) = _
  rw [zbL, zbL, ziI]
 have hLl : (zZ c.gts).1.length ≤ c.gts.length := by have := zg5 c.gts; omega
 have hso := zhO Hy c hr hz
 rw [show zbE c = ((zZ c.gts).1, za1 c.gts) from if_pos ((zcx c).2 hm)] at hso
 have hst1 := zcY st
 have hii1 := zcY ii
 unfold zaw
 generalize za1 c.gts = NV at *
 generalize hL : (zZ c.gts).1 = L at *
 have hLc : (zaf L).length = L.length := zdY L
 clear h0
 have hgt : ∀ k, k < c.gts.length → ∀ OF : List Bool, OF.length = (gat c.gts k).ins.length → Ct Tryz.prog Hy 31 [.ag [.s (gat c.gts k).name, .i .i64 (gat c.gts k).op, .sl (sR (gat c.gts k).ins), .sl (rR (gat c.gts k).rows), .b (gat c.gts k).off], .sl (bl OF)] [.b (zbp (gat c.gts k) OF), .i .i64 0] := fun k hk OF hO => by
  have h1 := hg8' k hk
  have hok : okG (gat c.gts k) OF = true := by unfold okG; rw [hgB k hk, decide_eq_true hO]; rfl
  have := znj Hy (gat c.gts k) OF (by omega) (by omega) (by omega) fun r hr => hz.rows _ (zcN hk) r hr
  rw [hok, Bool.true_and, if_pos rfl] at this
  exact this
 clear hz hmay hm
 obtain ⟨N0, hN0⟩ : ∃ n, n = c.ins.length + c.las.length := ⟨_, rfl⟩
 obtain ⟨G00, hG00⟩ : ∃ n, n = c.gts.length := ⟨_, rfl⟩
 obtain ⟨CE, hCE⟩ : ∃ x, x = [T.sl (sR c.ins), T.sl (sR c.outs), T.sl (lsR c.las), T.sl (gsR c.gts)] := ⟨_, rfl⟩
 have hlI : (bl ii ++ bl st).length = N0 := by rw [List.length_append, hbi, hbs, hs, hi, hN0]
 simp only [cE] at hri hso hrp ⊢
 refine zV (cls := _root_.id) zF zH Tryz.func11 rfl (by decide) (Nat.le_of_ble_eq_true rfl) ?_
 rw [show Tryz.f11.ntmps = 109 from rfl, zG]
 simp only [List.zipIdx_cons, List.zipIdx_nil, List.map_cons, List.map_nil, Nat.reduceAdd]
 repeat' first | apply zg | apply zi | refine zf rfl fun K E hK hE => ?_ | refine zC rfl (by kernel_rfl) fun K E hK hE => ?_ | ((first | refine za fun κ η => ?_ | refine zk rfl fun κ η => ?_ | refine zp (by kernel_rfl) fun κ η => ?_ | refine zB (by kernel_rfl) rfl fun κ η => ?_); simp only [go_sem, simprocAttr]; (repeat refine ⟨by (first | omega | assumption | exact ⟨_, rfl⟩ | exact ⟨_, rfl, rfl⟩), ?_⟩); refine η _ ?_; clear η κ) | (refine zd (hK _ ?_); clear hE hK E K) | apply zb | refine zh true rfl (fun _ => ?_) (fun h => (by cases h)) | refine zh false rfl (fun h => (by cases h)) fun _ => ?_ | (refine zD (hK _ ?_); clear hE hK E K) | apply zq | apply zj | apply zs | apply zm | apply zt | apply zu | refine zQ rfl ?_ | apply zw | apply zx | apply zE | apply zI | apply zr | apply zS | apply zU | apply zT | apply zK | apply zM | apply zN | ((first | apply zn | apply zP); (first | apply zo | apply zR | apply zO); simp only [go_sem, simprocAttr])
 (first | refine za fun κ η => ?_ | refine zk rfl fun κ η => ?_ | refine zp (by kernel_rfl) fun κ η => ?_ | refine zB (by kernel_rfl) rfl fun κ η => ?_); simp only [go_sem, simprocAttr]; refine ⟨_, hri, ?_⟩; simp only [go_sem, simprocAttr]; refine η _ ?_; clear η κ
 repeat' first | apply zg | apply zi | refine zf rfl fun K E hK hE => ?_ | refine zC rfl (by kernel_rfl) fun K E hK hE => ?_ | ((first | refine za fun κ η => ?_ | refine zk rfl fun κ η => ?_ | refine zp (by kernel_rfl) fun κ η => ?_ | refine zB (by kernel_rfl) rfl fun κ η => ?_); simp only [go_sem, simprocAttr, hbs, hs', hbi, hi', hst1, hii1]; (repeat refine ⟨by (first | omega | assumption | exact ⟨_, rfl⟩ | exact ⟨_, rfl, rfl⟩), ?_⟩); refine η _ ?_; clear η κ) | (refine zd (hK _ ?_); clear hE hK E K) | apply zb | refine zh true rfl (fun _ => ?_) (fun h => (by cases h)) | refine zh false rfl (fun h => (by cases h)) fun _ => ?_ | (refine zD (hK _ ?_); clear hE hK E K) | apply zq | apply zj | apply zs | apply zm | apply zt | apply zu | refine zQ rfl ?_ | apply zw | apply zx | apply zE | apply zI | apply zr | apply zS | apply zU | apply zT | apply zK | apply zM | apply zN | ((first | apply zn | apply zP); (first | apply zo | apply zR | apply zO); simp only [go_sem, simprocAttr, hbs, hs', hbi, hi', hst1, hii1])
 refine zX (fun m s' => ∃ k : Nat, m = c.gts.length - k ∧ k ≤ c.gts.length ∧ ∃ F G0 q, s' = nf 109 F G0 [(3, .ptr 3 1 0), (8, .row 38 q), (9, .t (.i .i64 (N0 : Nat))), (10, .t (.i .i64 k))] [] ∧ G0 3 = ⟨1, .cells 26 [.t (.sl (sR c.ins)), .t (.sl (sR c.outs)), .t (.sl (lsR c.las)), .t (.sl (gsR c.gts))]⟩ ∧ G0 38 = ⟨q, .row 4 1 (bl ii ++ bl st ++ List.replicate k [.b false])⟩) c.gts.length ?_ ?_
 ·refine ⟨0, by omega, by omega, _, _, _, zy rfl ⟨rfl, rfl, ?_, rfl, trivial⟩ trivial, rfl, ?_⟩
  ·rw [← hlI]; rfl
  ·rw [List.replicate_zero, List.append_nil]; rfl
 rintro m s' ⟨k, rfl, hk, F, G0, q, rfl, b3, b8⟩
 by_cases hd : k < c.gts.length
 ·have hd' : ((k : Int) < c.gts.length) = True := eq_true (by omega)
  have hst : bl ii ++ bl st ++ List.replicate (k + 1) [T.b false] = bl ii ++ bl st ++ List.replicate k [T.b false] ++ [[T.b false]] := by rw [List.replicate_succ', List.append_assoc _ _ [[T.b false]]]
  have hlen : (bl ii ++ bl st ++ List.replicate k [T.b false]).length ≤ 1000 := by rw [List.length_append, hlI, List.length_replicate]; omega
  generalize bl ii ++ bl st ++ List.replicate k [T.b false] = rw0 at *
  repeat' first | apply zg | apply zi | refine zf rfl fun K E hK hE => ?_ | refine zC rfl (by kernel_rfl) fun K E hK hE => ?_ | ((first | refine za fun κ η => ?_ | refine zk rfl fun κ η => ?_ | refine zp (by kernel_rfl) fun κ η => ?_ | refine zB (by kernel_rfl) rfl fun κ η => ?_); simp only [go_sem, simprocAttr, b3, hd', b8]; (repeat refine ⟨by (first | omega | assumption | exact ⟨_, rfl⟩ | exact ⟨_, rfl, rfl⟩), ?_⟩); refine η _ ?_; clear η κ) | (refine zd (hK _ ?_); clear hE hK E K) | apply zb | refine zh true rfl (fun _ => ?_) (fun h => (by cases h)) | refine zh false rfl (fun h => (by cases h)) fun _ => ?_ | (refine zD (hK _ ?_); clear hE hK E K) | apply zq | apply zj | apply zs | apply zm | apply zt | apply zu | refine zQ rfl ?_ | apply zw | apply zx | apply zE | apply zI | apply zr | apply zS | apply zU | apply zT | apply zK | apply zM | apply zN | ((first | apply zn | apply zP); (first | apply zo | apply zR | apply zO); simp only [go_sem, simprocAttr, b3, hd', b8])
  exact ⟨c.gts.length - (k + 1), by omega, k + 1, rfl, by omega, _, _, _, zy rfl ⟨rfl, rfl, rfl, rfl, trivial⟩ trivial, b3, by rw [hst]; rfl⟩
 obtain rfl : k = c.gts.length := by omega
 rw [← hv0] at b8
 repeat' first | apply zg | apply zi | refine zf rfl fun K E hK hE => ?_ | refine zC rfl (by kernel_rfl) fun K E hK hE => ?_ | ((first | refine za fun κ η => ?_ | refine zk rfl fun κ η => ?_ | refine zp (by kernel_rfl) fun κ η => ?_ | refine zB (by kernel_rfl) rfl fun κ η => ?_); simp only [go_sem, simprocAttr, b3, Int.lt_irrefl]; (repeat refine ⟨by (first | omega | assumption | exact ⟨_, rfl⟩ | exact ⟨_, rfl, rfl⟩), ?_⟩); refine η _ ?_; clear η κ) | (refine zd (hK _ ?_); clear hE hK E K) | apply zb | refine zh true rfl (fun _ => ?_) (fun h => (by cases h)) | refine zh false rfl (fun h => (by cases h)) fun _ => ?_ | (refine zD (hK _ ?_); clear hE hK E K) | apply zq | apply zj | apply zs | apply zm | apply zt | apply zu | refine zQ rfl ?_ | apply zw | apply zx | apply zE | apply zI | apply zr | apply zS | apply zU | apply zT | apply zK | apply zM | apply zN | ((first | apply zn | apply zP); (first | apply zo | apply zR | apply zO); simp only [go_sem, simprocAttr, b3, Int.lt_irrefl])
 (first | refine za fun κ η => ?_ | refine zk rfl fun κ η => ?_ | refine zp (by kernel_rfl) fun κ η => ?_ | refine zB (by kernel_rfl) rfl fun κ η => ?_); simp only [go_sem, simprocAttr, b3, b8]; refine ⟨_, hso, ?_⟩; simp only [go_sem, simprocAttr, b3, b8]; refine η _ ?_; clear η κ
 repeat' first | apply zg | apply zi | refine zf rfl fun K E hK hE => ?_ | refine zC rfl (by kernel_rfl) fun K E hK hE => ?_ | ((first | refine za fun κ η => ?_ | refine zk rfl fun κ η => ?_ | refine zp (by kernel_rfl) fun κ η => ?_ | refine zB (by kernel_rfl) rfl fun κ η => ?_); simp only [go_sem, simprocAttr]; (repeat refine ⟨by (first | omega | assumption | exact ⟨_, rfl⟩ | exact ⟨_, rfl, rfl⟩), ?_⟩); refine η _ ?_; clear η κ) | (refine zd (hK _ ?_); clear hE hK E K) | apply zb | refine zh true rfl (fun _ => ?_) (fun h => (by cases h)) | refine zh false rfl (fun h => (by cases h)) fun _ => ?_ | (refine zD (hK _ ?_); clear hE hK E K) | apply zq | apply zj | apply zs | apply zm | apply zt | apply zu | refine zQ rfl ?_ | apply zw | apply zx | apply zE | apply zI | apply zr | apply zS | apply zU | apply zT | apply zK | apply zM | apply zN | ((first | apply zn | apply zP); (first | apply zo | apply zR | apply zO); simp only [go_sem, simprocAttr])
 refine zX (fun m s' => ∃ n : Nat, m = L.length - n ∧ n ≤ L.length ∧ ∃ F G0 q, s' = nf 109 F G0 [(3, .ptr 3 1 0), (8, .row 38 q), (9, .t (.i .i64 (N0 : Nat))), (11, .t (.sl (iR (zaf L)))), (13, .t (.i .i64 n))] [] ∧ G0 3 = ⟨1, .cells 26 [.t (.sl (sR c.ins)), .t (.sl (sR c.outs)), .t (.sl (lsR c.las)), .t (.sl (gsR c.gts))]⟩ ∧ G0 38 = ⟨q, .row 4 1 (bl (zbB c st ii n))⟩) L.length ?_ ?_
 ·exact ⟨0, by omega, by omega, _, _, _, zy rfl ⟨rfl, rfl, rfl, rfl, rfl, trivial⟩ trivial, b3, b8⟩
 clear b3 b8
 rintro m s' ⟨n, rfl, hn, F, G0, q, rfl, b3, b8⟩
 by_cases hdn : n < L.length
 ·have hd' : ((n : Int) < L.length) = True := eq_true (by omega)
  obtain ⟨k, hk⟩ : ∃ k, L[n]? = some k := ⟨_, List.getElem?_eq_getElem hdn⟩
  have hkl := hlt k (List.mem_of_getElem? hk)
  have hk' := zfS hk
  have hg' := zaR (zfg hkl)
  have hvn := hvs n k hk
  have hvln := hvl n
  have hgt' := hgt k hkl
  obtain ⟨hq8, _⟩ := hg8' k hkl
  have husd := hused k hkl
  unfold zdb at hvn
  generalize hV2 : zbB c st ii (n + 1) = V2 at hvn
  generalize hV : zbB c st ii n = V at *
  generalize gat c.gts k = gg at *
  apply zg
  apply zg
  repeat' first | apply zi | refine zf rfl fun K E hK hE => ?_ | refine zC rfl (by kernel_rfl) fun K E hK hE => ?_ | ((first | refine za fun κ η => ?_ | refine zk rfl fun κ η => ?_ | refine zp (by kernel_rfl) fun κ η => ?_ | refine zB (by kernel_rfl) rfl fun κ η => ?_); simp only [go_sem, simprocAttr, hd']; (repeat refine ⟨by (first | omega | assumption | exact ⟨_, rfl⟩ | exact ⟨_, rfl, rfl⟩), ?_⟩); refine η _ ?_; clear η κ) | (refine zd (hK _ ?_); clear hE hK E K) | apply zb | refine zh true rfl (fun _ => ?_) (fun h => (by cases h)) | refine zh false rfl (fun h => (by cases h)) fun _ => ?_ | (refine zD (hK _ ?_); clear hE hK E K) | apply zq | apply zj | apply zs | apply zm | apply zt | apply zu | refine zQ rfl ?_ | apply zw | apply zx | apply zE | apply zI | apply zr | apply zS | apply zU | apply zT | apply zK | apply zM | apply zN | ((first | apply zn | apply zP); (first | apply zo | apply zR | apply zO); simp only [go_sem, simprocAttr, hd'])
  repeat' first | apply zi | refine zf rfl fun K E hK hE => ?_ | refine zC rfl (by kernel_rfl) fun K E hK hE => ?_ | ((first | refine za fun κ η => ?_ | refine zk rfl fun κ η => ?_ | refine zp (by kernel_rfl) fun κ η => ?_ | refine zB (by kernel_rfl) rfl fun κ η => ?_); simp only [go_sem, simprocAttr]; (repeat refine ⟨by (first | omega | assumption | exact ⟨_, rfl⟩ | exact ⟨_, rfl, rfl⟩), ?_⟩); refine η _ ?_; clear η κ) | (refine zd (hK _ ?_); clear hE hK E K) | apply zb | refine zh true rfl (fun _ => ?_) (fun h => (by cases h)) | refine zh false rfl (fun h => (by cases h)) fun _ => ?_ | (refine zD (hK _ ?_); clear hE hK E K) | apply zq | apply zj | apply zs | apply zm | apply zt | apply zu | refine zQ rfl ?_ | apply zw | apply zx | apply zE | apply zI | apply zr | apply zS | apply zU | apply zT | apply zK | apply zM | apply zN | ((first | apply zn | apply zP); (first | apply zo | apply zR | apply zO); simp only [go_sem, simprocAttr])
  apply zg
  repeat' first | apply zi | refine zf rfl fun K E hK hE => ?_ | refine zC rfl (by kernel_rfl) fun K E hK hE => ?_ | ((first | refine za fun κ η => ?_ | refine zk rfl fun κ η => ?_ | refine zp (by kernel_rfl) fun κ η => ?_ | refine zB (by kernel_rfl) rfl fun κ η => ?_); simp only [go_sem, simprocAttr]; (repeat refine ⟨by (first | omega | assumption | exact ⟨_, rfl⟩ | exact ⟨_, rfl, rfl⟩), ?_⟩); refine η _ ?_; clear η κ) | (refine zd (hK _ ?_); clear hE hK E K) | apply zb | refine zh true rfl (fun _ => ?_) (fun h => (by cases h)) | refine zh false rfl (fun h => (by cases h)) fun _ => ?_ | (refine zD (hK _ ?_); clear hE hK E K) | apply zq | apply zj | apply zs | apply zm | apply zt | apply zu | refine zQ rfl ?_ | apply zw | apply zx | apply zE | apply zI | apply zr | apply zS | apply zU | apply zT | apply zK | apply zM | apply zN | ((first | apply zn | apply zP); (first | apply zo | apply zR | apply zO); simp only [go_sem, simprocAttr])
  apply zg
  repeat' first | apply zi | refine zf rfl fun K E hK hE => ?_ | refine zC rfl (by kernel_rfl) fun K E hK hE => ?_ | ((first | refine za fun κ η => ?_ | refine zk rfl fun κ η => ?_ | refine zp (by kernel_rfl) fun κ η => ?_ | refine zB (by kernel_rfl) rfl fun κ η => ?_); simp only [go_sem, simprocAttr, hk', b3, hg']; (repeat refine ⟨by (first | omega | assumption | exact ⟨_, rfl⟩ | exact ⟨_, rfl, rfl⟩), ?_⟩); refine η _ ?_; clear η κ) | (refine zd (hK _ ?_); clear hE hK E K) | apply zb | refine zh true rfl (fun _ => ?_) (fun h => (by cases h)) | refine zh false rfl (fun h => (by cases h)) fun _ => ?_ | (refine zD (hK _ ?_); clear hE hK E K) | apply zq | apply zj | apply zs | apply zm | apply zt | apply zu | refine zQ rfl ?_ | apply zw | apply zx | apply zE | apply zI | apply zr | apply zS | apply zU | apply zT | apply zK | apply zM | apply zN | ((first | apply zn | apply zP); (first | apply zo | apply zR | apply zO); simp only [go_sem, simprocAttr, hk', b3, hg'])
  apply zg
  repeat' first | apply zi | refine zf rfl fun K E hK hE => ?_ | refine zC rfl (by kernel_rfl) fun K E hK hE => ?_ | ((first | refine za fun κ η => ?_ | refine zk rfl fun κ η => ?_ | refine zp (by kernel_rfl) fun κ η => ?_ | refine zB (by kernel_rfl) rfl fun κ η => ?_); simp only [go_sem, simprocAttr]; (repeat refine ⟨by (first | omega | assumption | exact ⟨_, rfl⟩ | exact ⟨_, rfl, rfl⟩), ?_⟩); refine η _ ?_; clear η κ) | (refine zd (hK _ ?_); clear hE hK E K) | apply zb | refine zh true rfl (fun _ => ?_) (fun h => (by cases h)) | refine zh false rfl (fun h => (by cases h)) fun _ => ?_ | (refine zD (hK _ ?_); clear hE hK E K) | apply zq | apply zj | apply zs | apply zm | apply zt | apply zu | refine zQ rfl ?_ | apply zw | apply zx | apply zE | apply zI | apply zr | apply zS | apply zU | apply zT | apply zK | apply zM | apply zN | ((first | apply zn | apply zP); (first | apply zo | apply zR | apply zO); simp only [go_sem, simprocAttr])
  refine zcz (fun s => ∃ F G0 e, s = nf 109 F G0 [(3, .ptr 3 1 0), (8, .row 38 q), (9, .t (.i .i64 (N0 : Nat))), (11, .t (.sl (iR (zaf L)))), (13, .t (.i .i64 n)), (14, .ptr 14 e 0), (15, .t (.sl (bl (gvs c V gg.ins))))] [] ∧ G0 3 = ⟨1, .cells 26 [.t (.sl (sR c.ins)), .t (.sl (sR c.outs)), .t (.sl (lsR c.las)), .t (.sl (gsR c.gts))]⟩ ∧ G0 38 = ⟨q, .row 4 1 (bl V)⟩ ∧ G0 14 = ⟨e, .cells 47 [.t (.s gg.name), .t (.i .i64 gg.op), .t (.sl (sR gg.ins)), .t (.sl (rR gg.rows)), .t (.b gg.off)]⟩) ?_ ?_
  rotate_left
  ·intro N hN
   repeat' first | apply zg | apply zi | refine zf rfl fun K E hK hE => ?_ | refine zC rfl (by kernel_rfl) fun K E hK hE => ?_ | ((first | refine za fun κ η => ?_ | refine zk rfl fun κ η => ?_ | refine zp (by kernel_rfl) fun κ η => ?_ | refine zB (by kernel_rfl) rfl fun κ η => ?_); simp only [go_sem, simprocAttr]; (repeat refine ⟨by (first | omega | assumption | exact ⟨_, rfl⟩ | exact ⟨_, rfl, rfl⟩), ?_⟩); refine η _ ?_; clear η κ) | (refine zd (hK _ ?_); clear hE hK E K) | apply zb | refine zh true rfl (fun _ => ?_) (fun h => (by cases h)) | refine zh false rfl (fun h => (by cases h)) fun _ => ?_ | (refine zD (hK _ ?_); clear hE hK E K) | apply zq | apply zj | apply zs | apply zm | apply zt | apply zu | refine zQ rfl ?_ | apply zw | apply zx | apply zE | apply zI | apply zr | apply zS | apply zU | apply zT | apply zK | apply zM | apply zN | ((first | apply zn | apply zP); (first | apply zo | apply zR | apply zO); simp only [go_sem, simprocAttr])
   refine zX (fun m s' => ∃ p : Nat, m = gg.ins.length - p ∧ p ≤ gg.ins.length ∧ ∃ F G0 e yy, s' = nf 109 F G0 [(3, .ptr 3 1 0), (8, .row 38 q), (9, .t (.i .i64 (N0 : Nat))), (11, .t (.sl (iR (zaf L)))), (13, .t (.i .i64 n)), (14, .ptr 14 e 0), (15, yy), (16, .t (.i .i64 p))] [] ∧ G0 3 = ⟨1, .cells 26 [.t (.sl (sR c.ins)), .t (.sl (sR c.outs)), .t (.sl (lsR c.las)), .t (.sl (gsR c.gts))]⟩ ∧ G0 38 = ⟨q, .row 4 1 (bl V)⟩ ∧ G0 14 = ⟨e, .cells 47 [.t (.s gg.name), .t (.i .i64 gg.op), .t (.sl (sR gg.ins)), .t (.sl (rR gg.rows)), .t (.b gg.off)]⟩ ∧ Acc G0 92 4 1 (bl (gvs c V (gg.ins.take p))) yy) gg.ins.length ?_ ?_
   ·exact ⟨0, by omega, by omega, _, _, _, _, zy rfl ⟨rfl, rfl, rfl, rfl, rfl, rfl, rfl, rfl, trivial⟩ trivial, b3, b8, rfl, .inl ⟨rfl, rfl⟩⟩
   clear b3 b8
   rintro m s' ⟨p, rfl, hp, F, G0, e, yy, rfl, b3, b8, b14, hy⟩
   have hlen : (bl (gvs c V (gg.ins.take p))).length ≤ 1000 := by rw [zaJ, zbZ, List.length_take]; omega
   by_cases hdp : p < gg.ins.length
   ·have hd2 : ((p : Int) < gg.ins.length) = True := eq_true (by omega)
    obtain ⟨s, hs3⟩ : ∃ s, gg.ins[p]? = some s := ⟨_, List.getElem?_eq_getElem hdp⟩
    have hs' := za6 hs3
    have hsu := husd s (List.mem_of_getElem? hs3)
    have hpl := hrp s hsu
    have hpv : plN c s < V.length := by have := (hlook s hsu).2; omega
    obtain ⟨x, hx⟩ : ∃ x, V[plN c s]? = some x := ⟨_, List.getElem?_eq_getElem hpv⟩
    have hx' := zbv hx
    have hsn : bl (gvs c V (gg.ins.take (p + 1))) = bl (gvs c V (gg.ins.take p)) ++ [[.b x]] := by
     rw [zdc hs3, zbL, List.getD_eq_getElem?_getD, hx]
     rfl
    generalize bl (gvs c V (gg.ins.take p)) = rw0 at hsn hlen hy
    rcases hy with ⟨y0, rfl⟩ | ⟨q', rfl, hr2⟩
    ·rw [y0] at hsn
     repeat' first | apply zg | apply zi | refine zf rfl fun K E hK hE => ?_ | refine zC rfl (by kernel_rfl) fun K E hK hE => ?_ | ((first | refine za fun κ η => ?_ | refine zk rfl fun κ η => ?_ | refine zp (by kernel_rfl) fun κ η => ?_ | refine zB (by kernel_rfl) rfl fun κ η => ?_); simp only [go_sem, simprocAttr, b3, b14, hd2, hs']; (repeat refine ⟨by (first | omega | assumption | exact ⟨_, rfl⟩ | exact ⟨_, rfl, rfl⟩), ?_⟩); refine η _ ?_; clear η κ) | (refine zd (hK _ ?_); clear hE hK E K) | apply zb | refine zh true rfl (fun _ => ?_) (fun h => (by cases h)) | refine zh false rfl (fun h => (by cases h)) fun _ => ?_ | (refine zD (hK _ ?_); clear hE hK E K) | apply zq | apply zj | apply zs | apply zm | apply zt | apply zu | refine zQ rfl ?_ | apply zw | apply zx | apply zE | apply zI | apply zr | apply zS | apply zU | apply zT | apply zK | apply zM | apply zN | ((first | apply zn | apply zP); (first | apply zo | apply zR | apply zO); simp only [go_sem, simprocAttr, b3, b14, hd2, hs'])
     (first | refine za fun κ η => ?_ | refine zk rfl fun κ η => ?_ | refine zp (by kernel_rfl) fun κ η => ?_ | refine zB (by kernel_rfl) rfl fun κ η => ?_); simp only [go_sem, simprocAttr]; refine ⟨_, hpl, ?_⟩; simp only [go_sem, simprocAttr]; refine η _ ?_; clear η κ
     repeat' first | apply zg | apply zi | refine zf rfl fun K E hK hE => ?_ | refine zC rfl (by kernel_rfl) fun K E hK hE => ?_ | ((first | refine za fun κ η => ?_ | refine zk rfl fun κ η => ?_ | refine zp (by kernel_rfl) fun κ η => ?_ | refine zB (by kernel_rfl) rfl fun κ η => ?_); simp only [go_sem, simprocAttr, b3, b8, b14, hx', Int.toNat_natCast]; (repeat refine ⟨by (first | omega | assumption | exact ⟨_, rfl⟩ | exact ⟨_, rfl, rfl⟩), ?_⟩); refine η _ ?_; clear η κ) | (refine zd (hK _ ?_); clear hE hK E K) | apply zb | refine zh true rfl (fun _ => ?_) (fun h => (by cases h)) | refine zh false rfl (fun h => (by cases h)) fun _ => ?_ | (refine zD (hK _ ?_); clear hE hK E K) | apply zq | apply zj | apply zs | apply zm | apply zt | apply zu | refine zQ rfl ?_ | apply zw | apply zx | apply zE | apply zI | apply zr | apply zS | apply zU | apply zT | apply zK | apply zM | apply zN | ((first | apply zn | apply zP); (first | apply zo | apply zR | apply zO); simp only [go_sem, simprocAttr, b3, b8, b14, hx', Int.toNat_natCast])
     exact ⟨gg.ins.length - (p + 1), by omega, p + 1, rfl, by omega, _, _, _, _, zy rfl ⟨rfl, rfl, rfl, rfl, rfl, rfl, rfl, rfl, trivial⟩ trivial, b3, b8, b14, .inr ⟨_, rfl, by rw [hsn]; rfl⟩⟩
    ·repeat' first | apply zg | apply zi | refine zf rfl fun K E hK hE => ?_ | refine zC rfl (by kernel_rfl) fun K E hK hE => ?_ | ((first | refine za fun κ η => ?_ | refine zk rfl fun κ η => ?_ | refine zp (by kernel_rfl) fun κ η => ?_ | refine zB (by kernel_rfl) rfl fun κ η => ?_); simp only [go_sem, simprocAttr, b3, b14, hd2, hs']; (repeat refine ⟨by (first | omega | assumption | exact ⟨_, rfl⟩ | exact ⟨_, rfl, rfl⟩), ?_⟩); refine η _ ?_; clear η κ) | (refine zd (hK _ ?_); clear hE hK E K) | apply zb | refine zh true rfl (fun _ => ?_) (fun h => (by cases h)) | refine zh false rfl (fun h => (by cases h)) fun _ => ?_ | (refine zD (hK _ ?_); clear hE hK E K) | apply zq | apply zj | apply zs | apply zm | apply zt | apply zu | refine zQ rfl ?_ | apply zw | apply zx | apply zE | apply zI | apply zr | apply zS | apply zU | apply zT | apply zK | apply zM | apply zN | ((first | apply zn | apply zP); (first | apply zo | apply zR | apply zO); simp only [go_sem, simprocAttr, b3, b14, hd2, hs'])
     (first | refine za fun κ η => ?_ | refine zk rfl fun κ η => ?_ | refine zp (by kernel_rfl) fun κ η => ?_ | refine zB (by kernel_rfl) rfl fun κ η => ?_); simp only [go_sem, simprocAttr]; refine ⟨_, hpl, ?_⟩; simp only [go_sem, simprocAttr]; refine η _ ?_; clear η κ
     repeat' first | apply zg | apply zi | refine zf rfl fun K E hK hE => ?_ | refine zC rfl (by kernel_rfl) fun K E hK hE => ?_ | ((first | refine za fun κ η => ?_ | refine zk rfl fun κ η => ?_ | refine zp (by kernel_rfl) fun κ η => ?_ | refine zB (by kernel_rfl) rfl fun κ η => ?_); simp only [go_sem, simprocAttr, b3, b8, b14, hx', hr2, Int.toNat_natCast]; (repeat refine ⟨by (first | omega | assumption | exact ⟨_, rfl⟩ | exact ⟨_, rfl, rfl⟩), ?_⟩); refine η _ ?_; clear η κ) | (refine zd (hK _ ?_); clear hE hK E K) | apply zb | refine zh true rfl (fun _ => ?_) (fun h => (by cases h)) | refine zh false rfl (fun h => (by cases h)) fun _ => ?_ | (refine zD (hK _ ?_); clear hE hK E K) | apply zq | apply zj | apply zs | apply zm | apply zt | apply zu | refine zQ rfl ?_ | apply zw | apply zx | apply zE | apply zI | apply zr | apply zS | apply zU | apply zT | apply zK | apply zM | apply zN | ((first | apply zn | apply zP); (first | apply zo | apply zR | apply zO); simp only [go_sem, simprocAttr, b3, b8, b14, hx', hr2, Int.toNat_natCast])
     exact ⟨gg.ins.length - (p + 1), by omega, p + 1, rfl, by omega, _, _, _, _, zy rfl ⟨rfl, rfl, rfl, rfl, rfl, rfl, rfl, rfl, trivial⟩ trivial, b3, b8, b14, .inr ⟨_, rfl, by rw [hsn]; rfl⟩⟩
   have hd2 : ((p : Int) < gg.ins.length) = False := eq_false (by omega)
   rw [List.take_of_length_le (by omega)] at hy
   rcases hy with ⟨y0, rfl⟩ | ⟨q', rfl, hr2⟩
   ·skip
    repeat' first | apply zg | apply zi | refine zf rfl fun K E hK hE => ?_ | refine zC rfl (by kernel_rfl) fun K E hK hE => ?_ | ((first | refine za fun κ η => ?_ | refine zk rfl fun κ η => ?_ | refine zp (by kernel_rfl) fun κ η => ?_ | refine zB (by kernel_rfl) rfl fun κ η => ?_); simp only [go_sem, simprocAttr, hd2, b14]; (repeat refine ⟨by (first | omega | assumption | exact ⟨_, rfl⟩ | exact ⟨_, rfl, rfl⟩), ?_⟩); refine η _ ?_; clear η κ) | (refine zd (hK _ ?_); clear hE hK E K) | refine zh true rfl (fun _ => ?_) (fun h => (by cases h)) | refine zh false rfl (fun h => (by cases h)) fun _ => ?_ | (refine zD (hK _ ?_); clear hE hK E K) | apply zq | apply zj | apply zs | apply zm | apply zt | apply zu | refine zQ rfl ?_ | apply zw | apply zx | apply zE | apply zI | apply zr | apply zS | apply zU | apply zT | apply zK | apply zM | apply zN | ((first | apply zn | apply zP); (first | apply zo | apply zR | apply zO); simp only [go_sem, simprocAttr, hd2, b14])
    apply zb
    repeat' first | apply zg | apply zi | refine zf rfl fun K E hK hE => ?_ | refine zC rfl (by kernel_rfl) fun K E hK hE => ?_ | ((first | refine za fun κ η => ?_ | refine zk rfl fun κ η => ?_ | refine zp (by kernel_rfl) fun κ η => ?_ | refine zB (by kernel_rfl) rfl fun κ η => ?_); simp only [go_sem, simprocAttr]; (repeat refine ⟨by (first | omega | assumption | exact ⟨_, rfl⟩ | exact ⟨_, rfl, rfl⟩), ?_⟩); refine η _ ?_; clear η κ) | (refine zd (hK _ ?_); clear hE hK E K) | refine zh true rfl (fun _ => ?_) (fun h => (by cases h)) | refine zh false rfl (fun h => (by cases h)) fun _ => ?_ | (refine zD (hK _ ?_); clear hE hK E K) | apply zq | apply zj | apply zs | apply zm | apply zt | apply zu | refine zQ rfl ?_ | apply zw | apply zx | apply zE | apply zI | apply zr | apply zS | apply zU | apply zT | apply zK | apply zM | apply zN | ((first | apply zn | apply zP); (first | apply zo | apply zR | apply zO); simp only [go_sem, simprocAttr])
    refine zbz 15 (by decide) (t0 := ?zt1) (up0 := ?zu1) ?zf1 ?zh1; (case zf1 => simp only [go_sem, simprocAttr]; (repeat' apply And.intro) <;> first | rfl | assumption | decide); simp only [List.reverse_cons, List.reverse_nil, List.nil_append, List.cons_append]
    exact hN _ ⟨_, _, _, zy rfl ⟨rfl, rfl, rfl, rfl, rfl, rfl, by rw [y0]; rfl, trivial⟩ trivial, b3, b8, b14⟩
   ·skip
    repeat' first | apply zg | apply zi | refine zf rfl fun K E hK hE => ?_ | refine zC rfl (by kernel_rfl) fun K E hK hE => ?_ | ((first | refine za fun κ η => ?_ | refine zk rfl fun κ η => ?_ | refine zp (by kernel_rfl) fun κ η => ?_ | refine zB (by kernel_rfl) rfl fun κ η => ?_); simp only [go_sem, simprocAttr, hd2, b14]; (repeat refine ⟨by (first | omega | assumption | exact ⟨_, rfl⟩ | exact ⟨_, rfl, rfl⟩), ?_⟩); refine η _ ?_; clear η κ) | (refine zd (hK _ ?_); clear hE hK E K) | refine zh true rfl (fun _ => ?_) (fun h => (by cases h)) | refine zh false rfl (fun h => (by cases h)) fun _ => ?_ | (refine zD (hK _ ?_); clear hE hK E K) | apply zq | apply zj | apply zs | apply zm | apply zt | apply zu | refine zQ rfl ?_ | apply zw | apply zx | apply zE | apply zI | apply zr | apply zS | apply zU | apply zT | apply zK | apply zM | apply zN | ((first | apply zn | apply zP); (first | apply zo | apply zR | apply zO); simp only [go_sem, simprocAttr, hd2, b14])
    apply zb
    repeat' first | apply zg | apply zi | refine zf rfl fun K E hK hE => ?_ | refine zC rfl (by kernel_rfl) fun K E hK hE => ?_ | ((first | refine za fun κ η => ?_ | refine zk rfl fun κ η => ?_ | refine zp (by kernel_rfl) fun κ η => ?_ | refine zB (by kernel_rfl) rfl fun κ η => ?_); simp only [go_sem, simprocAttr]; (repeat refine ⟨by (first | omega | assumption | exact ⟨_, rfl⟩ | exact ⟨_, rfl, rfl⟩), ?_⟩); refine η _ ?_; clear η κ) | (refine zd (hK _ ?_); clear hE hK E K) | refine zh true rfl (fun _ => ?_) (fun h => (by cases h)) | refine zh false rfl (fun h => (by cases h)) fun _ => ?_ | (refine zD (hK _ ?_); clear hE hK E K) | apply zq | apply zj | apply zs | apply zm | apply zt | apply zu | refine zQ rfl ?_ | apply zw | apply zx | apply zE | apply zI | apply zr | apply zS | apply zU | apply zT | apply zK | apply zM | apply zN | ((first | apply zn | apply zP); (first | apply zo | apply zR | apply zO); simp only [go_sem, simprocAttr])
    refine zbz 15 (by decide) (t0 := ?zt2) (up0 := ?zu2) ?zf2 ?zh2; (case zf2 => simp only [go_sem, simprocAttr, hr2]; (repeat' apply And.intro) <;> first | rfl | assumption | decide); simp only [List.reverse_cons, List.reverse_nil, List.nil_append, List.cons_append]
    exact hN _ ⟨_, _, _, zy rfl ⟨rfl, rfl, rfl, rfl, rfl, rfl, rfl, trivial⟩ trivial, b3, b8, b14⟩
  clear b3 b8
  rintro s ⟨F, G0, e, rfl, b3, b8, b14⟩
  have hg8 := hgt' (gvs c V gg.ins) (zbZ c V gg.ins)
  have hidx : ((N0 : Nat) : Int) + (k : Nat) = ((N0 + k : Nat) : Int) := by omega
  obtain ⟨old, hold⟩ : ∃ old, V[N0 + k]? = some old := ⟨_, List.getElem?_eq_getElem (by omega)⟩
  have hold' := zbv hold
  have hset : (bl V).set (N0 + k) [.b (zbp gg (gvs c V gg.ins))] = bl V2 := by rw [ziH, hvn, hN0]
  clear hvn
  generalize gvs c V gg.ins = OF at *
  generalize zbp gg OF = gv at *
  repeat' first | apply zg | apply zi | refine zf rfl fun K E hK hE => ?_ | refine zC rfl (by kernel_rfl) fun K E hK hE => ?_ | ((first | refine za fun κ η => ?_ | refine zk rfl fun κ η => ?_ | refine zp (by kernel_rfl) fun κ η => ?_ | refine zB (by kernel_rfl) rfl fun κ η => ?_); simp only [go_sem, simprocAttr, b14]; (repeat refine ⟨by (first | omega | assumption | exact ⟨_, rfl⟩ | exact ⟨_, rfl, rfl⟩), ?_⟩); refine η _ ?_; clear η κ) | (refine zd (hK _ ?_); clear hE hK E K) | apply zb | refine zh true rfl (fun _ => ?_) (fun h => (by cases h)) | refine zh false rfl (fun h => (by cases h)) fun _ => ?_ | (refine zD (hK _ ?_); clear hE hK E K) | apply zq | apply zj | apply zs | apply zm | apply zt | apply zu | refine zQ rfl ?_ | apply zw | apply zx | apply zE | apply zI | apply zr | apply zS | apply zU | apply zT | apply zK | apply zM | apply zN | ((first | apply zn | apply zP); (first | apply zo | apply zR | apply zO); simp only [go_sem, simprocAttr, b14])
  (first | refine za fun κ η => ?_ | refine zk rfl fun κ η => ?_ | refine zp (by kernel_rfl) fun κ η => ?_ | refine zB (by kernel_rfl) rfl fun κ η => ?_); simp only [go_sem, simprocAttr, b3, b8, b14]; refine ⟨_, hg8, ?_⟩; simp only [go_sem, simprocAttr, b3, b8, b14]; refine η _ ?_; clear η κ
  repeat' first | apply zg | apply zi | refine zf rfl fun K E hK hE => ?_ | refine zC rfl (by kernel_rfl) fun K E hK hE => ?_ | ((first | refine za fun κ η => ?_ | refine zk rfl fun κ η => ?_ | refine zp (by kernel_rfl) fun κ η => ?_ | refine zB (by kernel_rfl) rfl fun κ η => ?_); simp only [go_sem, simprocAttr, b8, hk', hidx, hold', Int.toNat_natCast]; (repeat refine ⟨by (first | omega | assumption | exact ⟨_, rfl⟩ | exact ⟨_, rfl, rfl⟩), ?_⟩); refine η _ ?_; clear η κ) | (refine zd (hK _ ?_); clear hE hK E K) | apply zb | refine zh true rfl (fun _ => ?_) (fun h => (by cases h)) | refine zh false rfl (fun h => (by cases h)) fun _ => ?_ | (refine zD (hK _ ?_); clear hE hK E K) | apply zq | apply zj | apply zs | apply zm | apply zt | apply zu | refine zQ rfl ?_ | apply zw | apply zx | apply zE | apply zI | apply zr | apply zS | apply zU | apply zT | apply zK | apply zM | apply zN | ((first | apply zn | apply zP); (first | apply zo | apply zR | apply zO); simp only [go_sem, simprocAttr, b8, hk', hidx, hold', Int.toNat_natCast])
  exact ⟨L.length - (n + 1), by omega, n + 1, rfl, by omega, _, _, _, zy rfl ⟨rfl, rfl, rfl, rfl, rfl, trivial⟩ trivial, b3, by rw [hV2, ← hset]; rfl⟩
 obtain rfl : n = L.length := by omega
 repeat' first | apply zg | apply zi | refine zf rfl fun K E hK hE => ?_ | refine zC rfl (by kernel_rfl) fun K E hK hE => ?_ | ((first | refine za fun κ η => ?_ | refine zk rfl fun κ η => ?_ | refine zp (by kernel_rfl) fun κ η => ?_ | refine zB (by kernel_rfl) rfl fun κ η => ?_); simp only [go_sem, simprocAttr, Int.lt_irrefl, b8]; (repeat refine ⟨by (first | omega | assumption | exact ⟨_, rfl⟩ | exact ⟨_, rfl, rfl⟩), ?_⟩); refine η _ ?_; clear η κ) | (refine zd (hK _ ?_); clear hE hK E K) | apply zb | refine zh true rfl (fun _ => ?_) (fun h => (by cases h)) | refine zh false rfl (fun h => (by cases h)) fun _ => ?_ | (refine zD (hK _ ?_); clear hE hK E K) | apply zq | apply zj | apply zs | apply zm | apply zt | apply zu | refine zQ rfl ?_ | apply zw | apply zx | apply zE | apply zI | apply zr | apply zS | apply zU | apply zT | apply zK | apply zM | apply zN | ((first | apply zn | apply zP); (first | apply zo | apply zR | apply zO); simp only [go_sem, simprocAttr, Int.lt_irrefl, b8])
end Go.Proofs.YtbhoeanfnbkenaaGreatDoor
namespace Go.Proofs.YtbhoeanfnbkenaaGreatDoor
open Go.RowKit Go.WideMaps
set_option maxRecDepth 100000
set_option linter.unusedSimpArgs false
variable (Hy : World → Prop)
attribute [local irreducible] zW zY cwp z1 z7 lpQ z8 asQ bdQ bdY zab zac zad zaa
set_option maxHeartbeats 16000000 in
theorem zjk (c : Ci) (st ii : List Bool) (hr : CRoom c) (hz : CSz c) : Ct Tryz.prog Hy 13 [.ag (cE c), .sl (bl st), .sl (bl ii)] [.sl (bl (zaN c st ii).1), .sl (bl (zaN c st ii).2.1), .i .i64 (zaN c st ii).2.2] := by
 have hv := zio Hy c st ii hr hz
 have hbad : ∀ e : Int, e ≠ 0 → zaY c st ii = ([], e) → Ct Tryz.prog Hy 13 [.ag (cE c), .sl (bl st), .sl (bl ii)] [.sl (bl []), .sl (bl []), .i .i64 e] := fun e he h => by
  have he' := eq_false he
  rw [h] at hv
  clear h he
  obtain ⟨ins, outs, las, gts⟩ := c
  simp only [cE] at hv ⊢
  generalize bl st = B1 at *
  generalize bl ii = B2 at *
  refine zV (cls := _root_.id) zF zH Tryz.func13 rfl (by decide) (Nat.le_of_ble_eq_true rfl) ?_
  rw [show Tryz.f13.ntmps = 68 from rfl, zG]
  simp only [List.zipIdx_cons, List.zipIdx_nil, List.map_cons, List.map_nil, Nat.reduceAdd]
  repeat' first | apply zg | apply zi | refine zf rfl fun K E hK hE => ?_ | refine zC rfl (by kernel_rfl) fun K E hK hE => ?_ | ((first | refine za fun κ η => ?_ | refine zk rfl fun κ η => ?_ | refine zp (by kernel_rfl) fun κ η => ?_ | refine zB (by kernel_rfl) rfl fun κ η => ?_); simp only [go_sem, simprocAttr]; (repeat refine ⟨by (first | omega | assumption | exact ⟨_, rfl⟩ | exact ⟨_, rfl, rfl⟩), ?_⟩); refine η _ ?_; clear η κ) | (refine zd (hK _ ?_); clear hE hK E K) | apply zb | refine zh true rfl (fun _ => ?_) (fun h => (by cases h)) | refine zh false rfl (fun h => (by cases h)) fun _ => ?_ | (refine zD (hK _ ?_); clear hE hK E K) | apply zq | apply zj | apply zs | apply zm | apply zt | apply zu | refine zQ rfl ?_ | apply zw | apply zx | apply zE | apply zI | apply zr | apply zS | apply zU | apply zT | apply zK | apply zM | apply zN | ((first | apply zn | apply zP); (first | apply zo | apply zR | apply zO); simp only [go_sem, simprocAttr])
  (first | refine za fun κ η => ?_ | refine zk rfl fun κ η => ?_ | refine zp (by kernel_rfl) fun κ η => ?_ | refine zB (by kernel_rfl) rfl fun κ η => ?_); simp only [go_sem, simprocAttr]; refine ⟨_, hv, ?_⟩; simp only [go_sem, simprocAttr]; refine η _ ?_; clear η κ
  repeat' first | apply zg | apply zi | refine zf rfl fun K E hK hE => ?_ | refine zC rfl (by kernel_rfl) fun K E hK hE => ?_ | ((first | refine za fun κ η => ?_ | refine zk rfl fun κ η => ?_ | refine zp (by kernel_rfl) fun κ η => ?_ | refine zB (by kernel_rfl) rfl fun κ η => ?_); simp only [go_sem, simprocAttr, he']; (repeat refine ⟨by (first | omega | assumption | exact ⟨_, rfl⟩ | exact ⟨_, rfl, rfl⟩), ?_⟩); refine η _ ?_; clear η κ) | (refine zd (hK _ ?_); clear hE hK E K) | apply zb | refine zh true rfl (fun _ => ?_) (fun h => (by cases h)) | refine zh false rfl (fun h => (by cases h)) fun _ => ?_ | (refine zD (hK _ ?_); clear hE hK E K) | apply zq | apply zj | apply zs | apply zm | apply zt | apply zu | refine zQ rfl ?_ | apply zw | apply zx | apply zE | apply zI | apply zr | apply zS | apply zU | apply zT | apply zK | apply zM | apply zN | ((first | apply zn | apply zP); (first | apply zo | apply zR | apply zO); simp only [go_sem, simprocAttr, he'])
  rfl
 by_cases h0 : (zav c).1 = 0
 rotate_left
 ·rw [show zaN c st ii = ([], [], 1) from if_neg h0]
  exact hbad 1 (by decide) (if_neg h0)
 by_cases hl : st.length = c.las.length ∧ ii.length = c.ins.length
 rotate_left
 ·rw [show zaN c st ii = ([], [], 11) from (if_pos h0).trans (if_neg hl)]
  exact hbad 11 (by decide) ((if_pos h0).trans (if_neg hl))
 rw [show zaN c st ii = (zcn c (zaw c st ii), zbT c (zaw c st ii), 0) from (if_pos h0).trans (if_pos hl)]
 rw [show zaY c st ii = (zaw c st ii, 0) from (if_pos h0).trans (if_pos hl)] at hv
 have hm := ((zca c).1 h0).1
 obtain ⟨⟨h200, ho200⟩, hg8⟩ := zcf hm
 have hmay := hm.may
 have hVl : (zaw c st ii).length = (z2 c).length := by rw [zb5]; exact (zdQ c st ii _).trans (by have := hl.1; have := hl.2; omega)
 have hrp : ∀ s ∈ z2 c, Ct Tryz.prog Hy 30 [.ag (cE c), .s s] [.i .i64 (plN c s : Nat)] ∧ plN c s < (z2 c).length := fun s h => by
  have h1 := zeq hmay h
  have := zf9 Hy c s ⟨by omega, by omega, by omega, by omega⟩
  rw [h1.2] at this
  exact ⟨this, (List.getElem?_eq_some_iff.1 h1.1).1⟩
 have huo : ∀ s ∈ c.outs, s ∈ z2 c := fun s h => hm.used s (by unfold zbh; exact List.mem_append_left _ h)
 have hul : ∀ x ∈ c.las, x.next ∈ z2 c := fun x h => hm.used _ (by unfold zbh; exact List.mem_append_right _ (List.mem_append_left _ (List.mem_map.2 ⟨x, h, rfl⟩)))
 clear hbad hz hmay hm h0 hg8
 unfold zcn zbT
 generalize zaw c st ii = V at *
 simp only [cE] at hv hrp ⊢
 refine zV (cls := _root_.id) zF zH Tryz.func13 rfl (by decide) (Nat.le_of_ble_eq_true rfl) ?_
 rw [show Tryz.f13.ntmps = 68 from rfl, zG]
 simp only [List.zipIdx_cons, List.zipIdx_nil, List.map_cons, List.map_nil, Nat.reduceAdd]
 repeat' first | apply zg | apply zi | refine zf rfl fun K E hK hE => ?_ | refine zC rfl (by kernel_rfl) fun K E hK hE => ?_ | ((first | refine za fun κ η => ?_ | refine zk rfl fun κ η => ?_ | refine zp (by kernel_rfl) fun κ η => ?_ | refine zB (by kernel_rfl) rfl fun κ η => ?_); simp only [go_sem, simprocAttr]; (repeat refine ⟨by (first | omega | assumption | exact ⟨_, rfl⟩ | exact ⟨_, rfl, rfl⟩), ?_⟩); refine η _ ?_; clear η κ) | (refine zd (hK _ ?_); clear hE hK E K) | apply zb | refine zh true rfl (fun _ => ?_) (fun h => (by cases h)) | refine zh false rfl (fun h => (by cases h)) fun _ => ?_ | (refine zD (hK _ ?_); clear hE hK E K) | apply zq | apply zj | apply zs | apply zm | apply zt | apply zu | refine zQ rfl ?_ | apply zw | apply zx | apply zE | apply zI | apply zr | apply zS | apply zU | apply zT | apply zK | apply zM | apply zN | ((first | apply zn | apply zP); (first | apply zo | apply zR | apply zO); simp only [go_sem, simprocAttr])
 (first | refine za fun κ η => ?_ | refine zk rfl fun κ η => ?_ | refine zp (by kernel_rfl) fun κ η => ?_ | refine zB (by kernel_rfl) rfl fun κ η => ?_); simp only [go_sem, simprocAttr]; refine ⟨_, hv, ?_⟩; simp only [go_sem, simprocAttr]; refine η _ ?_; clear η κ
 repeat' first | apply zi | refine zf rfl fun K E hK hE => ?_ | refine zC rfl (by kernel_rfl) fun K E hK hE => ?_ | ((first | refine za fun κ η => ?_ | refine zk rfl fun κ η => ?_ | refine zp (by kernel_rfl) fun κ η => ?_ | refine zB (by kernel_rfl) rfl fun κ η => ?_); simp only [go_sem, simprocAttr]; (repeat refine ⟨by (first | omega | assumption | exact ⟨_, rfl⟩ | exact ⟨_, rfl, rfl⟩), ?_⟩); refine η _ ?_; clear η κ) | (refine zd (hK _ ?_); clear hE hK E K) | apply zb | refine zh true rfl (fun _ => ?_) (fun h => (by cases h)) | refine zh false rfl (fun h => (by cases h)) fun _ => ?_ | (refine zD (hK _ ?_); clear hE hK E K) | apply zq | apply zj | apply zs | apply zm | apply zt | apply zu | refine zQ rfl ?_ | apply zw | apply zx | apply zE | apply zI | apply zr | apply zS | apply zU | apply zT | apply zK | apply zM | apply zN | ((first | apply zn | apply zP); (first | apply zo | apply zR | apply zO); simp only [go_sem, simprocAttr])
 apply zg
 apply zg
 repeat' first | apply zi | refine zf rfl fun K E hK hE => ?_ | refine zC rfl (by kernel_rfl) fun K E hK hE => ?_ | ((first | refine za fun κ η => ?_ | refine zk rfl fun κ η => ?_ | refine zp (by kernel_rfl) fun κ η => ?_ | refine zB (by kernel_rfl) rfl fun κ η => ?_); simp only [go_sem, simprocAttr]; (repeat refine ⟨by (first | omega | assumption | exact ⟨_, rfl⟩ | exact ⟨_, rfl, rfl⟩), ?_⟩); refine η _ ?_; clear η κ) | (refine zd (hK _ ?_); clear hE hK E K) | apply zb | refine zh true rfl (fun _ => ?_) (fun h => (by cases h)) | refine zh false rfl (fun h => (by cases h)) fun _ => ?_ | (refine zD (hK _ ?_); clear hE hK E K) | apply zq | apply zj | apply zs | apply zm | apply zt | apply zu | refine zQ rfl ?_ | apply zw | apply zx | apply zE | apply zI | apply zr | apply zS | apply zU | apply zT | apply zK | apply zM | apply zN | ((first | apply zn | apply zP); (first | apply zo | apply zR | apply zO); simp only [go_sem, simprocAttr])
 apply zg
 repeat' first | apply zi | refine zf rfl fun K E hK hE => ?_ | refine zC rfl (by kernel_rfl) fun K E hK hE => ?_ | ((first | refine za fun κ η => ?_ | refine zk rfl fun κ η => ?_ | refine zp (by kernel_rfl) fun κ η => ?_ | refine zB (by kernel_rfl) rfl fun κ η => ?_); simp only [go_sem, simprocAttr]; (repeat refine ⟨by (first | omega | assumption | exact ⟨_, rfl⟩ | exact ⟨_, rfl, rfl⟩), ?_⟩); refine η _ ?_; clear η κ) | (refine zd (hK _ ?_); clear hE hK E K) | apply zb | refine zh true rfl (fun _ => ?_) (fun h => (by cases h)) | refine zh false rfl (fun h => (by cases h)) fun _ => ?_ | (refine zD (hK _ ?_); clear hE hK E K) | apply zq | apply zj | apply zs | apply zm | apply zt | apply zu | refine zQ rfl ?_ | apply zw | apply zx | apply zE | apply zI | apply zr | apply zS | apply zU | apply zT | apply zK | apply zM | apply zN | ((first | apply zn | apply zP); (first | apply zo | apply zR | apply zO); simp only [go_sem, simprocAttr])
 apply zg
 repeat' first | apply zi | refine zf rfl fun K E hK hE => ?_ | refine zC rfl (by kernel_rfl) fun K E hK hE => ?_ | ((first | refine za fun κ η => ?_ | refine zk rfl fun κ η => ?_ | refine zp (by kernel_rfl) fun κ η => ?_ | refine zB (by kernel_rfl) rfl fun κ η => ?_); simp only [go_sem, simprocAttr]; (repeat refine ⟨by (first | omega | assumption | exact ⟨_, rfl⟩ | exact ⟨_, rfl, rfl⟩), ?_⟩); refine η _ ?_; clear η κ) | (refine zd (hK _ ?_); clear hE hK E K) | apply zb | refine zh true rfl (fun _ => ?_) (fun h => (by cases h)) | refine zh false rfl (fun h => (by cases h)) fun _ => ?_ | (refine zD (hK _ ?_); clear hE hK E K) | apply zq | apply zj | apply zs | apply zm | apply zt | apply zu | refine zQ rfl ?_ | apply zw | apply zx | apply zE | apply zI | apply zr | apply zS | apply zU | apply zT | apply zK | apply zM | apply zN | ((first | apply zn | apply zP); (first | apply zo | apply zR | apply zO); simp only [go_sem, simprocAttr])
 refine zcz (fun s => ∃ F G0, s = nf 68 F G0 [(3, .ptr 3 1 0), (9, .t (.sl (bl V))), (12, .nilS), (11, .t (.sl (bl (gvs c V c.outs))))] [] ∧ G0 3 = ⟨1, .cells 26 [.t (.sl (sR c.ins)), .t (.sl (sR c.outs)), .t (.sl (lsR c.las)), .t (.sl (gsR c.gts))]⟩) ?_ ?_
 rotate_left
 ·intro N hN
  repeat' first | apply zg | apply zi | refine zf rfl fun K E hK hE => ?_ | refine zC rfl (by kernel_rfl) fun K E hK hE => ?_ | ((first | refine za fun κ η => ?_ | refine zk rfl fun κ η => ?_ | refine zp (by kernel_rfl) fun κ η => ?_ | refine zB (by kernel_rfl) rfl fun κ η => ?_); simp only [go_sem, simprocAttr]; (repeat refine ⟨by (first | omega | assumption | exact ⟨_, rfl⟩ | exact ⟨_, rfl, rfl⟩), ?_⟩); refine η _ ?_; clear η κ) | (refine zd (hK _ ?_); clear hE hK E K) | apply zb | refine zh true rfl (fun _ => ?_) (fun h => (by cases h)) | refine zh false rfl (fun h => (by cases h)) fun _ => ?_ | (refine zD (hK _ ?_); clear hE hK E K) | apply zq | apply zj | apply zs | apply zm | apply zt | apply zu | refine zQ rfl ?_ | apply zw | apply zx | apply zE | apply zI | apply zr | apply zS | apply zU | apply zT | apply zK | apply zM | apply zN | ((first | apply zn | apply zP); (first | apply zo | apply zR | apply zO); simp only [go_sem, simprocAttr])
  refine zX (fun m s' => ∃ p : Nat, m = c.outs.length - p ∧ p ≤ c.outs.length ∧ ∃ F G0 yy, s' = nf 68 F G0 [(3, .ptr 3 1 0), (9, .t (.sl (bl V))), (12, .nilS), (11, yy), (13, .t (.i .i64 p))] [] ∧ G0 3 = ⟨1, .cells 26 [.t (.sl (sR c.ins)), .t (.sl (sR c.outs)), .t (.sl (lsR c.las)), .t (.sl (gsR c.gts))]⟩ ∧ Acc G0 44 4 1 (bl (gvs c V (c.outs.take p))) yy) c.outs.length ?_ ?_
  ·exact ⟨0, by omega, by omega, _, _, _, zy rfl ⟨rfl, rfl, rfl, rfl, rfl, trivial⟩ trivial, rfl, .inl ⟨rfl, rfl⟩⟩
  skip
  rintro m s' ⟨p, rfl, hp, F, G0, yy, rfl, b3, hy⟩
  have hlen : (bl (gvs c V (c.outs.take p))).length ≤ 1000 := by rw [zaJ, zbZ, List.length_take]; omega
  by_cases hdp : p < c.outs.length
  ·have hd2 : ((p : Int) < c.outs.length) = True := eq_true (by omega)
   obtain ⟨s, hs3⟩ : ∃ s, c.outs[p]? = some s := ⟨_, List.getElem?_eq_getElem hdp⟩
   have hs' := za6 hs3
   have hsu := huo s (List.mem_of_getElem? hs3)
   obtain ⟨hpl, hpv⟩ := hrp s hsu
   rw [← hVl] at hpv
   obtain ⟨x, hx⟩ : ∃ x, V[plN c s]? = some x := ⟨_, List.getElem?_eq_getElem hpv⟩
   have hx' := zbv hx
   have hsn : bl (gvs c V (c.outs.take (p + 1))) = bl (gvs c V (c.outs.take p)) ++ [[.b x]] := by
    rw [zdc hs3, zbL, List.getD_eq_getElem?_getD, hx]
    rfl
   generalize bl (gvs c V (c.outs.take p)) = rw0 at hsn hlen hy
   rcases hy with ⟨y0, rfl⟩ | ⟨q', rfl, hr2⟩
   ·rw [y0] at hsn
    repeat' first | apply zg | apply zi | refine zf rfl fun K E hK hE => ?_ | refine zC rfl (by kernel_rfl) fun K E hK hE => ?_ | ((first | refine za fun κ η => ?_ | refine zk rfl fun κ η => ?_ | refine zp (by kernel_rfl) fun κ η => ?_ | refine zB (by kernel_rfl) rfl fun κ η => ?_); simp only [go_sem, simprocAttr, b3, hd2, hs']; (repeat refine ⟨by (first | omega | assumption | exact ⟨_, rfl⟩ | exact ⟨_, rfl, rfl⟩), ?_⟩); refine η _ ?_; clear η κ) | (refine zd (hK _ ?_); clear hE hK E K) | apply zb | refine zh true rfl (fun _ => ?_) (fun h => (by cases h)) | refine zh false rfl (fun h => (by cases h)) fun _ => ?_ | (refine zD (hK _ ?_); clear hE hK E K) | apply zq | apply zj | apply zs | apply zm | apply zt | apply zu | refine zQ rfl ?_ | apply zw | apply zx | apply zE | apply zI | apply zr | apply zS | apply zU | apply zT | apply zK | apply zM | apply zN | ((first | apply zn | apply zP); (first | apply zo | apply zR | apply zO); simp only [go_sem, simprocAttr, b3, hd2, hs'])
    (first | refine za fun κ η => ?_ | refine zk rfl fun κ η => ?_ | refine zp (by kernel_rfl) fun κ η => ?_ | refine zB (by kernel_rfl) rfl fun κ η => ?_); simp only [go_sem, simprocAttr]; refine ⟨_, hpl, ?_⟩; simp only [go_sem, simprocAttr]; refine η _ ?_; clear η κ
    repeat' first | apply zg | apply zi | refine zf rfl fun K E hK hE => ?_ | refine zC rfl (by kernel_rfl) fun K E hK hE => ?_ | ((first | refine za fun κ η => ?_ | refine zk rfl fun κ η => ?_ | refine zp (by kernel_rfl) fun κ η => ?_ | refine zB (by kernel_rfl) rfl fun κ η => ?_); simp only [go_sem, simprocAttr, b3, hx', Int.toNat_natCast]; (repeat refine ⟨by (first | omega | assumption | exact ⟨_, rfl⟩ | exact ⟨_, rfl, rfl⟩), ?_⟩); refine η _ ?_; clear η κ) | (refine zd (hK _ ?_); clear hE hK E K) | apply zb | refine zh true rfl (fun _ => ?_) (fun h => (by cases h)) | refine zh false rfl (fun h => (by cases h)) fun _ => ?_ | (refine zD (hK _ ?_); clear hE hK E K) | apply zq | apply zj | apply zs | apply zm | apply zt | apply zu | refine zQ rfl ?_ | apply zw | apply zx | apply zE | apply zI | apply zr | apply zS | apply zU | apply zT | apply zK | apply zM | apply zN | ((first | apply zn | apply zP); (first | apply zo | apply zR | apply zO); simp only [go_sem, simprocAttr, b3, hx', Int.toNat_natCast])
    exact ⟨c.outs.length - (p + 1), by omega, p + 1, rfl, by omega, _, _, _, zy rfl ⟨rfl, rfl, rfl, rfl, rfl, trivial⟩ trivial, b3, .inr ⟨_, rfl, by rw [hsn]; rfl⟩⟩
   ·repeat' first | apply zg | apply zi | refine zf rfl fun K E hK hE => ?_ | refine zC rfl (by kernel_rfl) fun K E hK hE => ?_ | ((first | refine za fun κ η => ?_ | refine zk rfl fun κ η => ?_ | refine zp (by kernel_rfl) fun κ η => ?_ | refine zB (by kernel_rfl) rfl fun κ η => ?_); simp only [go_sem, simprocAttr, b3, hd2, hs']; (repeat refine ⟨by (first | omega | assumption | exact ⟨_, rfl⟩ | exact ⟨_, rfl, rfl⟩), ?_⟩); refine η _ ?_; clear η κ) | (refine zd (hK _ ?_); clear hE hK E K) | apply zb | refine zh true rfl (fun _ => ?_) (fun h => (by cases h)) | refine zh false rfl (fun h => (by cases h)) fun _ => ?_ | (refine zD (hK _ ?_); clear hE hK E K) | apply zq | apply zj | apply zs | apply zm | apply zt | apply zu | refine zQ rfl ?_ | apply zw | apply zx | apply zE | apply zI | apply zr | apply zS | apply zU | apply zT | apply zK | apply zM | apply zN | ((first | apply zn | apply zP); (first | apply zo | apply zR | apply zO); simp only [go_sem, simprocAttr, b3, hd2, hs'])
    (first | refine za fun κ η => ?_ | refine zk rfl fun κ η => ?_ | refine zp (by kernel_rfl) fun κ η => ?_ | refine zB (by kernel_rfl) rfl fun κ η => ?_); simp only [go_sem, simprocAttr]; refine ⟨_, hpl, ?_⟩; simp only [go_sem, simprocAttr]; refine η _ ?_; clear η κ
    repeat' first | apply zg | apply zi | refine zf rfl fun K E hK hE => ?_ | refine zC rfl (by kernel_rfl) fun K E hK hE => ?_ | ((first | refine za fun κ η => ?_ | refine zk rfl fun κ η => ?_ | refine zp (by kernel_rfl) fun κ η => ?_ | refine zB (by kernel_rfl) rfl fun κ η => ?_); simp only [go_sem, simprocAttr, b3, hx', hr2, Int.toNat_natCast]; (repeat refine ⟨by (first | omega | assumption | exact ⟨_, rfl⟩ | exact ⟨_, rfl, rfl⟩), ?_⟩); refine η _ ?_; clear η κ) | (refine zd (hK _ ?_); clear hE hK E K) | apply zb | refine zh true rfl (fun _ => ?_) (fun h => (by cases h)) | refine zh false rfl (fun h => (by cases h)) fun _ => ?_ | (refine zD (hK _ ?_); clear hE hK E K) | apply zq | apply zj | apply zs | apply zm | apply zt | apply zu | refine zQ rfl ?_ | apply zw | apply zx | apply zE | apply zI | apply zr | apply zS | apply zU | apply zT | apply zK | apply zM | apply zN | ((first | apply zn | apply zP); (first | apply zo | apply zR | apply zO); simp only [go_sem, simprocAttr, b3, hx', hr2, Int.toNat_natCast])
    exact ⟨c.outs.length - (p + 1), by omega, p + 1, rfl, by omega, _, _, _, zy rfl ⟨rfl, rfl, rfl, rfl, rfl, trivial⟩ trivial, b3, .inr ⟨_, rfl, by rw [hsn]; rfl⟩⟩
  have hd2 : ((p : Int) < c.outs.length) = False := eq_false (by omega)
  rw [List.take_of_length_le (by omega)] at hy
  rcases hy with ⟨y0, rfl⟩ | ⟨q', rfl, hr2⟩
  ·skip
   repeat' first | apply zg | apply zi | refine zf rfl fun K E hK hE => ?_ | refine zC rfl (by kernel_rfl) fun K E hK hE => ?_ | ((first | refine za fun κ η => ?_ | refine zk rfl fun κ η => ?_ | refine zp (by kernel_rfl) fun κ η => ?_ | refine zB (by kernel_rfl) rfl fun κ η => ?_); simp only [go_sem, simprocAttr, hd2, b3]; (repeat refine ⟨by (first | omega | assumption | exact ⟨_, rfl⟩ | exact ⟨_, rfl, rfl⟩), ?_⟩); refine η _ ?_; clear η κ) | (refine zd (hK _ ?_); clear hE hK E K) | refine zh true rfl (fun _ => ?_) (fun h => (by cases h)) | refine zh false rfl (fun h => (by cases h)) fun _ => ?_ | (refine zD (hK _ ?_); clear hE hK E K) | apply zq | apply zj | apply zs | apply zm | apply zt | apply zu | refine zQ rfl ?_ | apply zw | apply zx | apply zE | apply zI | apply zr | apply zS | apply zU | apply zT | apply zK | apply zM | apply zN | ((first | apply zn | apply zP); (first | apply zo | apply zR | apply zO); simp only [go_sem, simprocAttr, hd2, b3])
   apply zb
   repeat' first | apply zg | apply zi | refine zf rfl fun K E hK hE => ?_ | refine zC rfl (by kernel_rfl) fun K E hK hE => ?_ | ((first | refine za fun κ η => ?_ | refine zk rfl fun κ η => ?_ | refine zp (by kernel_rfl) fun κ η => ?_ | refine zB (by kernel_rfl) rfl fun κ η => ?_); simp only [go_sem, simprocAttr]; (repeat refine ⟨by (first | omega | assumption | exact ⟨_, rfl⟩ | exact ⟨_, rfl, rfl⟩), ?_⟩); refine η _ ?_; clear η κ) | (refine zd (hK _ ?_); clear hE hK E K) | refine zh true rfl (fun _ => ?_) (fun h => (by cases h)) | refine zh false rfl (fun h => (by cases h)) fun _ => ?_ | (refine zD (hK _ ?_); clear hE hK E K) | apply zq | apply zj | apply zs | apply zm | apply zt | apply zu | refine zQ rfl ?_ | apply zw | apply zx | apply zE | apply zI | apply zr | apply zS | apply zU | apply zT | apply zK | apply zM | apply zN | ((first | apply zn | apply zP); (first | apply zo | apply zR | apply zO); simp only [go_sem, simprocAttr])
   refine zbz 11 (by decide) (t0 := ?zt1) (up0 := ?zu1) ?zf1 ?zh1; (case zf1 => simp only [go_sem, simprocAttr]; (repeat' apply And.intro) <;> first | rfl | assumption | decide); simp only [List.reverse_cons, List.reverse_nil, List.nil_append, List.cons_append]
   exact hN _ ⟨_, _, zy rfl ⟨rfl, rfl, rfl, by rw [y0]; rfl, trivial⟩ trivial, b3⟩
  ·skip
   repeat' first | apply zg | apply zi | refine zf rfl fun K E hK hE => ?_ | refine zC rfl (by kernel_rfl) fun K E hK hE => ?_ | ((first | refine za fun κ η => ?_ | refine zk rfl fun κ η => ?_ | refine zp (by kernel_rfl) fun κ η => ?_ | refine zB (by kernel_rfl) rfl fun κ η => ?_); simp only [go_sem, simprocAttr, hd2, b3]; (repeat refine ⟨by (first | omega | assumption | exact ⟨_, rfl⟩ | exact ⟨_, rfl, rfl⟩), ?_⟩); refine η _ ?_; clear η κ) | (refine zd (hK _ ?_); clear hE hK E K) | refine zh true rfl (fun _ => ?_) (fun h => (by cases h)) | refine zh false rfl (fun h => (by cases h)) fun _ => ?_ | (refine zD (hK _ ?_); clear hE hK E K) | apply zq | apply zj | apply zs | apply zm | apply zt | apply zu | refine zQ rfl ?_ | apply zw | apply zx | apply zE | apply zI | apply zr | apply zS | apply zU | apply zT | apply zK | apply zM | apply zN | ((first | apply zn | apply zP); (first | apply zo | apply zR | apply zO); simp only [go_sem, simprocAttr, hd2, b3])
   apply zb
   repeat' first | apply zg | apply zi | refine zf rfl fun K E hK hE => ?_ | refine zC rfl (by kernel_rfl) fun K E hK hE => ?_ | ((first | refine za fun κ η => ?_ | refine zk rfl fun κ η => ?_ | refine zp (by kernel_rfl) fun κ η => ?_ | refine zB (by kernel_rfl) rfl fun κ η => ?_); simp only [go_sem, simprocAttr]; (repeat refine ⟨by (first | omega | assumption | exact ⟨_, rfl⟩ | exact ⟨_, rfl, rfl⟩), ?_⟩); refine η _ ?_; clear η κ) | (refine zd (hK _ ?_); clear hE hK E K) | refine zh true rfl (fun _ => ?_) (fun h => (by cases h)) | refine zh false rfl (fun h => (by cases h)) fun _ => ?_ | (refine zD (hK _ ?_); clear hE hK E K) | apply zq | apply zj | apply zs | apply zm | apply zt | apply zu | refine zQ rfl ?_ | apply zw | apply zx | apply zE | apply zI | apply zr | apply zS | apply zU | apply zT | apply zK | apply zM | apply zN | ((first | apply zn | apply zP); (first | apply zo | apply zR | apply zO); simp only [go_sem, simprocAttr])
   refine zbz 11 (by decide) (t0 := ?zt2) (up0 := ?zu2) ?zf2 ?zh2; (case zf2 => simp only [go_sem, simprocAttr, hr2]; (repeat' apply And.intro) <;> first | rfl | assumption | decide); simp only [List.reverse_cons, List.reverse_nil, List.nil_append, List.cons_append]
   exact hN _ ⟨_, _, zy rfl ⟨rfl, rfl, rfl, rfl, trivial⟩ trivial, b3⟩
 rintro s ⟨F, G0, rfl, b3⟩
 refine zcz (fun s => ∃ F G0, s = nf 68 F G0 [(3, .ptr 3 1 0), (9, .t (.sl (bl V))), (11, .t (.sl (bl (gvs c V c.outs)))), (12, .t (.sl (bl (gvs c V (zaV c.las)))))] [] ∧ G0 3 = ⟨1, .cells 26 [.t (.sl (sR c.ins)), .t (.sl (sR c.outs)), .t (.sl (lsR c.las)), .t (.sl (gsR c.gts))]⟩) ?_ ?_
 rotate_left
 ·intro N hN
  repeat' first | apply zg | apply zi | refine zf rfl fun K E hK hE => ?_ | refine zC rfl (by kernel_rfl) fun K E hK hE => ?_ | ((first | refine za fun κ η => ?_ | refine zk rfl fun κ η => ?_ | refine zp (by kernel_rfl) fun κ η => ?_ | refine zB (by kernel_rfl) rfl fun κ η => ?_); simp only [go_sem, simprocAttr]; (repeat refine ⟨by (first | omega | assumption | exact ⟨_, rfl⟩ | exact ⟨_, rfl, rfl⟩), ?_⟩); refine η _ ?_; clear η κ) | (refine zd (hK _ ?_); clear hE hK E K) | apply zb | refine zh true rfl (fun _ => ?_) (fun h => (by cases h)) | refine zh false rfl (fun h => (by cases h)) fun _ => ?_ | (refine zD (hK _ ?_); clear hE hK E K) | apply zq | apply zj | apply zs | apply zm | apply zt | apply zu | refine zQ rfl ?_ | apply zw | apply zx | apply zE | apply zI | apply zr | apply zS | apply zU | apply zT | apply zK | apply zM | apply zN | ((first | apply zn | apply zP); (first | apply zo | apply zR | apply zO); simp only [go_sem, simprocAttr])
  refine zX (fun m s' => ∃ p : Nat, m = c.las.length - p ∧ p ≤ c.las.length ∧ ∃ F G0 yy, s' = nf 68 F G0 [(3, .ptr 3 1 0), (9, .t (.sl (bl V))), (11, .t (.sl (bl (gvs c V c.outs)))), (12, yy), (14, .t (.i .i64 p))] [] ∧ G0 3 = ⟨1, .cells 26 [.t (.sl (sR c.ins)), .t (.sl (sR c.outs)), .t (.sl (lsR c.las)), .t (.sl (gsR c.gts))]⟩ ∧ Acc G0 65 4 1 (bl (gvs c V ((zaV c.las).take p))) yy) c.las.length ?_ ?_
  ·exact ⟨0, by omega, by omega, _, _, _, zy rfl ⟨rfl, rfl, rfl, rfl, rfl, trivial⟩ trivial, b3, .inl ⟨rfl, rfl⟩⟩
  clear b3
  rintro m s' ⟨p, rfl, hp, F, G0, yy, rfl, b3, hy⟩
  have hlen : (bl (gvs c V ((zaV c.las).take p))).length ≤ 1000 := by rw [zaJ, zbZ, List.length_take]; omega
  by_cases hdp : p < c.las.length
  ·have hd2 : ((p : Int) < c.las.length) = True := eq_true (by omega)
   obtain ⟨y, hy3⟩ : ∃ y, c.las[p]? = some y := ⟨_, List.getElem?_eq_getElem hdp⟩
   have hs' := zbl hy3
   have hsu := hul y (List.mem_of_getElem? hy3)
   obtain ⟨s, hse⟩ : ∃ s, s = y.next := ⟨_, rfl⟩
   have hs3 : (zaV c.las)[p]? = some s := by unfold zaV; rw [List.getElem?_map, hy3, hse]; rfl
   rw [← hse] at hs' hsu
   obtain ⟨hpl, hpv⟩ := hrp s hsu
   rw [← hVl] at hpv
   obtain ⟨x, hx⟩ : ∃ x, V[plN c s]? = some x := ⟨_, List.getElem?_eq_getElem hpv⟩
   have hx' := zbv hx
   have hsn : bl (gvs c V ((zaV c.las).take (p + 1))) = bl (gvs c V ((zaV c.las).take p)) ++ [[.b x]] := by
    rw [zdc hs3, zbL, List.getD_eq_getElem?_getD, hx]
    rfl
   generalize bl (gvs c V ((zaV c.las).take p)) = rw0 at hsn hlen hy
   rcases hy with ⟨y0, rfl⟩ | ⟨q', rfl, hr2⟩
   ·rw [y0] at hsn
    repeat' first | apply zg | apply zi | refine zf rfl fun K E hK hE => ?_ | refine zC rfl (by kernel_rfl) fun K E hK hE => ?_ | ((first | refine za fun κ η => ?_ | refine zk rfl fun κ η => ?_ | refine zp (by kernel_rfl) fun κ η => ?_ | refine zB (by kernel_rfl) rfl fun κ η => ?_); simp only [go_sem, simprocAttr, b3, hd2, hs']; (repeat refine ⟨by (first | omega | assumption | exact ⟨_, rfl⟩ | exact ⟨_, rfl, rfl⟩), ?_⟩); refine η _ ?_; clear η κ) | (refine zd (hK _ ?_); clear hE hK E K) | apply zb | refine zh true rfl (fun _ => ?_) (fun h => (by cases h)) | refine zh false rfl (fun h => (by cases h)) fun _ => ?_ | (refine zD (hK _ ?_); clear hE hK E K) | apply zq | apply zj | apply zs | apply zm | apply zt | apply zu | refine zQ rfl ?_ | apply zw | apply zx | apply zE | apply zI | apply zr | apply zS | apply zU | apply zT | apply zK | apply zM | apply zN | ((first | apply zn | apply zP); (first | apply zo | apply zR | apply zO); simp only [go_sem, simprocAttr, b3, hd2, hs'])
    (first | refine za fun κ η => ?_ | refine zk rfl fun κ η => ?_ | refine zp (by kernel_rfl) fun κ η => ?_ | refine zB (by kernel_rfl) rfl fun κ η => ?_); simp only [go_sem, simprocAttr]; refine ⟨_, hpl, ?_⟩; simp only [go_sem, simprocAttr]; refine η _ ?_; clear η κ
    repeat' first | apply zg | apply zi | refine zf rfl fun K E hK hE => ?_ | refine zC rfl (by kernel_rfl) fun K E hK hE => ?_ | ((first | refine za fun κ η => ?_ | refine zk rfl fun κ η => ?_ | refine zp (by kernel_rfl) fun κ η => ?_ | refine zB (by kernel_rfl) rfl fun κ η => ?_); simp only [go_sem, simprocAttr, b3, hx', Int.toNat_natCast]; (repeat refine ⟨by (first | omega | assumption | exact ⟨_, rfl⟩ | exact ⟨_, rfl, rfl⟩), ?_⟩); refine η _ ?_; clear η κ) | (refine zd (hK _ ?_); clear hE hK E K) | apply zb | refine zh true rfl (fun _ => ?_) (fun h => (by cases h)) | refine zh false rfl (fun h => (by cases h)) fun _ => ?_ | (refine zD (hK _ ?_); clear hE hK E K) | apply zq | apply zj | apply zs | apply zm | apply zt | apply zu | refine zQ rfl ?_ | apply zw | apply zx | apply zE | apply zI | apply zr | apply zS | apply zU | apply zT | apply zK | apply zM | apply zN | ((first | apply zn | apply zP); (first | apply zo | apply zR | apply zO); simp only [go_sem, simprocAttr, b3, hx', Int.toNat_natCast])
    exact ⟨c.las.length - (p + 1), by omega, p + 1, rfl, by omega, _, _, _, zy rfl ⟨rfl, rfl, rfl, rfl, rfl, trivial⟩ trivial, b3, .inr ⟨_, rfl, by rw [hsn]; rfl⟩⟩
   ·repeat' first | apply zg | apply zi | refine zf rfl fun K E hK hE => ?_ | refine zC rfl (by kernel_rfl) fun K E hK hE => ?_ | ((first | refine za fun κ η => ?_ | refine zk rfl fun κ η => ?_ | refine zp (by kernel_rfl) fun κ η => ?_ | refine zB (by kernel_rfl) rfl fun κ η => ?_); simp only [go_sem, simprocAttr, b3, hd2, hs']; (repeat refine ⟨by (first | omega | assumption | exact ⟨_, rfl⟩ | exact ⟨_, rfl, rfl⟩), ?_⟩); refine η _ ?_; clear η κ) | (refine zd (hK _ ?_); clear hE hK E K) | apply zb | refine zh true rfl (fun _ => ?_) (fun h => (by cases h)) | refine zh false rfl (fun h => (by cases h)) fun _ => ?_ | (refine zD (hK _ ?_); clear hE hK E K) | apply zq | apply zj | apply zs | apply zm | apply zt | apply zu | refine zQ rfl ?_ | apply zw | apply zx | apply zE | apply zI | apply zr | apply zS | apply zU | apply zT | apply zK | apply zM | apply zN | ((first | apply zn | apply zP); (first | apply zo | apply zR | apply zO); simp only [go_sem, simprocAttr, b3, hd2, hs'])
    (first | refine za fun κ η => ?_ | refine zk rfl fun κ η => ?_ | refine zp (by kernel_rfl) fun κ η => ?_ | refine zB (by kernel_rfl) rfl fun κ η => ?_); simp only [go_sem, simprocAttr]; refine ⟨_, hpl, ?_⟩; simp only [go_sem, simprocAttr]; refine η _ ?_; clear η κ
    repeat' first | apply zg | apply zi | refine zf rfl fun K E hK hE => ?_ | refine zC rfl (by kernel_rfl) fun K E hK hE => ?_ | ((first | refine za fun κ η => ?_ | refine zk rfl fun κ η => ?_ | refine zp (by kernel_rfl) fun κ η => ?_ | refine zB (by kernel_rfl) rfl fun κ η => ?_); simp only [go_sem, simprocAttr, b3, hx', hr2, Int.toNat_natCast]; (repeat refine ⟨by (first | omega | assumption | exact ⟨_, rfl⟩ | exact ⟨_, rfl, rfl⟩), ?_⟩); refine η _ ?_; clear η κ) | (refine zd (hK _ ?_); clear hE hK E K) | apply zb | refine zh true rfl (fun _ => ?_) (fun h => (by cases h)) | refine zh false rfl (fun h => (by cases h)) fun _ => ?_ | (refine zD (hK _ ?_); clear hE hK E K) | apply zq | apply zj | apply zs | apply zm | apply zt | apply zu | refine zQ rfl ?_ | apply zw | apply zx | apply zE | apply zI | apply zr | apply zS | apply zU | apply zT | apply zK | apply zM | apply zN | ((first | apply zn | apply zP); (first | apply zo | apply zR | apply zO); simp only [go_sem, simprocAttr, b3, hx', hr2, Int.toNat_natCast])
    exact ⟨c.las.length - (p + 1), by omega, p + 1, rfl, by omega, _, _, _, zy rfl ⟨rfl, rfl, rfl, rfl, rfl, trivial⟩ trivial, b3, .inr ⟨_, rfl, by rw [hsn]; rfl⟩⟩
  have hd2 : ((p : Int) < c.las.length) = False := eq_false (by omega)
  rw [List.take_of_length_le (by unfold zaV; rw [List.length_map]; omega)] at hy
  rcases hy with ⟨y0, rfl⟩ | ⟨q', rfl, hr2⟩
  ·skip
   repeat' first | apply zg | apply zi | refine zf rfl fun K E hK hE => ?_ | refine zC rfl (by kernel_rfl) fun K E hK hE => ?_ | ((first | refine za fun κ η => ?_ | refine zk rfl fun κ η => ?_ | refine zp (by kernel_rfl) fun κ η => ?_ | refine zB (by kernel_rfl) rfl fun κ η => ?_); simp only [go_sem, simprocAttr, hd2, b3]; (repeat refine ⟨by (first | omega | assumption | exact ⟨_, rfl⟩ | exact ⟨_, rfl, rfl⟩), ?_⟩); refine η _ ?_; clear η κ) | (refine zd (hK _ ?_); clear hE hK E K) | refine zh true rfl (fun _ => ?_) (fun h => (by cases h)) | refine zh false rfl (fun h => (by cases h)) fun _ => ?_ | (refine zD (hK _ ?_); clear hE hK E K) | apply zq | apply zj | apply zs | apply zm | apply zt | apply zu | refine zQ rfl ?_ | apply zw | apply zx | apply zE | apply zI | apply zr | apply zS | apply zU | apply zT | apply zK | apply zM | apply zN | ((first | apply zn | apply zP); (first | apply zo | apply zR | apply zO); simp only [go_sem, simprocAttr, hd2, b3])
   apply zb
   repeat' first | apply zg | apply zi | refine zf rfl fun K E hK hE => ?_ | refine zC rfl (by kernel_rfl) fun K E hK hE => ?_ | ((first | refine za fun κ η => ?_ | refine zk rfl fun κ η => ?_ | refine zp (by kernel_rfl) fun κ η => ?_ | refine zB (by kernel_rfl) rfl fun κ η => ?_); simp only [go_sem, simprocAttr]; (repeat refine ⟨by (first | omega | assumption | exact ⟨_, rfl⟩ | exact ⟨_, rfl, rfl⟩), ?_⟩); refine η _ ?_; clear η κ) | (refine zd (hK _ ?_); clear hE hK E K) | refine zh true rfl (fun _ => ?_) (fun h => (by cases h)) | refine zh false rfl (fun h => (by cases h)) fun _ => ?_ | (refine zD (hK _ ?_); clear hE hK E K) | apply zq | apply zj | apply zs | apply zm | apply zt | apply zu | refine zQ rfl ?_ | apply zw | apply zx | apply zE | apply zI | apply zr | apply zS | apply zU | apply zT | apply zK | apply zM | apply zN | ((first | apply zn | apply zP); (first | apply zo | apply zR | apply zO); simp only [go_sem, simprocAttr])
   refine zbz 12 (by decide) (t0 := ?zt3) (up0 := ?zu3) ?zf3 ?zh3; (case zf3 => simp only [go_sem, simprocAttr]; (repeat' apply And.intro) <;> first | rfl | assumption | decide); simp only [List.reverse_cons, List.reverse_nil, List.nil_append, List.cons_append]
   exact hN _ ⟨_, _, zy rfl ⟨rfl, rfl, rfl, by rw [y0]; rfl, trivial⟩ trivial, b3⟩
  ·skip
   repeat' first | apply zg | apply zi | refine zf rfl fun K E hK hE => ?_ | refine zC rfl (by kernel_rfl) fun K E hK hE => ?_ | ((first | refine za fun κ η => ?_ | refine zk rfl fun κ η => ?_ | refine zp (by kernel_rfl) fun κ η => ?_ | refine zB (by kernel_rfl) rfl fun κ η => ?_); simp only [go_sem, simprocAttr, hd2, b3]; (repeat refine ⟨by (first | omega | assumption | exact ⟨_, rfl⟩ | exact ⟨_, rfl, rfl⟩), ?_⟩); refine η _ ?_; clear η κ) | (refine zd (hK _ ?_); clear hE hK E K) | refine zh true rfl (fun _ => ?_) (fun h => (by cases h)) | refine zh false rfl (fun h => (by cases h)) fun _ => ?_ | (refine zD (hK _ ?_); clear hE hK E K) | apply zq | apply zj | apply zs | apply zm | apply zt | apply zu | refine zQ rfl ?_ | apply zw | apply zx | apply zE | apply zI | apply zr | apply zS | apply zU | apply zT | apply zK | apply zM | apply zN | ((first | apply zn | apply zP); (first | apply zo | apply zR | apply zO); simp only [go_sem, simprocAttr, hd2, b3])
   apply zb
   repeat' first | apply zg | apply zi | refine zf rfl fun K E hK hE => ?_ | refine zC rfl (by kernel_rfl) fun K E hK hE => ?_ | ((first | refine za fun κ η => ?_ | refine zk rfl fun κ η => ?_ | refine zp (by kernel_rfl) fun κ η => ?_ | refine zB (by kernel_rfl) rfl fun κ η => ?_); simp only [go_sem, simprocAttr]; (repeat refine ⟨by (first | omega | assumption | exact ⟨_, rfl⟩ | exact ⟨_, rfl, rfl⟩), ?_⟩); refine η _ ?_; clear η κ) | (refine zd (hK _ ?_); clear hE hK E K) | refine zh true rfl (fun _ => ?_) (fun h => (by cases h)) | refine zh false rfl (fun h => (by cases h)) fun _ => ?_ | (refine zD (hK _ ?_); clear hE hK E K) | apply zq | apply zj | apply zs | apply zm | apply zt | apply zu | refine zQ rfl ?_ | apply zw | apply zx | apply zE | apply zI | apply zr | apply zS | apply zU | apply zT | apply zK | apply zM | apply zN | ((first | apply zn | apply zP); (first | apply zo | apply zR | apply zO); simp only [go_sem, simprocAttr])
   refine zbz 12 (by decide) (t0 := ?zt4) (up0 := ?zu4) ?zf4 ?zh4; (case zf4 => simp only [go_sem, simprocAttr, hr2]; (repeat' apply And.intro) <;> first | rfl | assumption | decide); simp only [List.reverse_cons, List.reverse_nil, List.nil_append, List.cons_append]
   exact hN _ ⟨_, _, zy rfl ⟨rfl, rfl, rfl, rfl, trivial⟩ trivial, b3⟩
 rintro s ⟨F, G0, rfl, b3⟩
 generalize gvs c V (zaV c.las) = N1 at *
 generalize gvs c V c.outs = N2 at *
 repeat' first | apply zg | apply zi | refine zf rfl fun K E hK hE => ?_ | refine zC rfl (by kernel_rfl) fun K E hK hE => ?_ | ((first | refine za fun κ η => ?_ | refine zk rfl fun κ η => ?_ | refine zp (by kernel_rfl) fun κ η => ?_ | refine zB (by kernel_rfl) rfl fun κ η => ?_); simp only [go_sem, simprocAttr]; (repeat refine ⟨by (first | omega | assumption | exact ⟨_, rfl⟩ | exact ⟨_, rfl, rfl⟩), ?_⟩); refine η _ ?_; clear η κ) | (refine zd (hK _ ?_); clear hE hK E K) | apply zb | refine zh true rfl (fun _ => ?_) (fun h => (by cases h)) | refine zh false rfl (fun h => (by cases h)) fun _ => ?_ | (refine zD (hK _ ?_); clear hE hK E K) | apply zq | apply zj | apply zs | apply zm | apply zt | apply zu | refine zQ rfl ?_ | apply zw | apply zx | apply zE | apply zI | apply zr | apply zS | apply zU | apply zT | apply zK | apply zM | apply zN | ((first | apply zn | apply zP); (first | apply zo | apply zR | apply zO); simp only [go_sem, simprocAttr])
end Go.Proofs.YtbhoeanfnbkenaaGreatDoor
