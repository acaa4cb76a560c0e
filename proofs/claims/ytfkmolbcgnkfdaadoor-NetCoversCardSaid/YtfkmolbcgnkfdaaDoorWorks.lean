/- The document's example of netlists. -/
import Derived.Test.YtfkmolbcgnkfdaaDoorCanon4
import Derived.Test.YtfkmolbcgnkfdaaDoorRChk
import Derived.Test.YtfkmolbcgnkfdaaDoorRSame
namespace Go.Proofs.YtfkmolbcgnkfdaaDoor
open Go.RowKit
attribute [local go_sem] Oper.semAt_some
set_option maxRecDepth 100000
set_option maxHeartbeats 2000000
def g0 : Gt := ⟨⟨#[122]⟩, 10, [⟨#[97]⟩, ⟨#[113]⟩], [⟨#[49, 49]⟩], false⟩
def c0 : Ci := ⟨[⟨#[97]⟩], [⟨#[122]⟩], [⟨⟨#[113]⟩, ⟨#[122]⟩, 2⟩], [g0]⟩
def d0 : Ci := ⟨[⟨#[97]⟩], [⟨#[122]⟩, ⟨#[121]⟩], [⟨⟨#[113]⟩, ⟨#[122]⟩, 2⟩], [g0]⟩
def g1 : Gt := ⟨⟨#[]⟩, 4, [], [], false⟩
theorem few_c0 : Few c0 ∧ FewG c0.gts ∧ FewZ c0.gts := by
  refine ⟨⟨by decide, by decide, by decide, by decide⟩, ?_, ?_⟩
  · intro g h
    obtain rfl : g = g0 := by simpa [c0] using h
    decide
  · intro g h
    obtain rfl : g = g0 := by simpa [c0] using h
    decide
theorem few_d0 : Few d0 ∧ FewG d0.gts ∧ FewZ d0.gts := by
  refine ⟨⟨by decide, by decide, by decide, by decide⟩, ?_, ?_⟩
  · intro g h
    obtain rfl : g = g0 := by simpa [d0] using h
    decide
  · intro g h
    obtain rfl : g = g0 := by simpa [d0] using h
    decide
theorem inn_blk {W : World} {B n : Nat} {l : List ByteArray} (h : Blk W B (l.flatMap stc).toArray 9) (hn : n = l.length) (hl : n ≤ 100) (hz : ∀ x ∈ l, x.size ≤ 60) : Inn W (.slice (some ⟨B, 0, none⟩) n n) l :=
  ⟨Lst.blk (t := 9) h hn, by unfold maxLen; omega, fun x hx => by have := hz x hx; unfold maxLen; omega, nilfine_some _ _ _, capfine_eq _ _⟩
theorem cir_blk {W : World} {bi bo bl be bp br m : Nat} {os : List ByteArray} (hi : Blk W bi #[.string ⟨#[97]⟩] 9) (ho : Blk W bo (os.flatMap stc).toArray 9) (hm : m = os.length) (hol : m ≤ 100) (hz : ∀ x ∈ os, x.size ≤ 60) (hl : Blk W bl #[.string ⟨#[113]⟩, .string ⟨#[122]⟩, .int .i64 2] 58)
    (hg : Blk W be #[.string ⟨#[122]⟩, .int .i64 10, .slice (some ⟨bp, 0, none⟩) 2 2, .slice (some ⟨br, 0, none⟩) 1 1, .bool false] 39) (hp : Blk W bp #[.string ⟨#[97]⟩, .string ⟨#[113]⟩] 9) (hr : Blk W br #[.string ⟨#[49, 49]⟩] 9) :
    Cir W (.slice (some ⟨bi, 0, none⟩) 1 1) (.slice (some ⟨bo, 0, none⟩) m m) (.slice (some ⟨bl, 0, none⟩) 1 1) (.slice (some ⟨be, 0, none⟩) 1 1) ⟨[⟨#[97]⟩], os, [⟨⟨#[113]⟩, ⟨#[122]⟩, 2⟩], [g0]⟩ := by
  refine ⟨inn_blk (l := [⟨#[97]⟩]) hi rfl (by decide) (by decide), inn_blk ho hm hol hz, ⟨Lst.blk (t := 58) (l := [(⟨⟨#[113]⟩, ⟨#[122]⟩, 2⟩ : La)]) hl rfl, ?_, ?_⟩, ?_⟩
  · intro x h
    obtain rfl := List.mem_singleton.1 h
    exact ⟨by decide, by decide⟩
  · intro x h
    obtain rfl := List.mem_singleton.1 h
    decide
  · refine ⟨[⟨⟨#[122]⟩, 10, .slice (some ⟨bp, 0, none⟩) 2 2, .slice (some ⟨br, 0, none⟩) 1 1, false⟩], Lst.blk (t := 39) hg rfl, rfl, ?_⟩
    intro i r g h1 h2
    match i with
    | 0 =>
      obtain rfl := Option.some.inj h1
      obtain rfl := Option.some.inj h2
      exact ⟨rfl, rfl, rfl, inn_blk (l := [⟨#[97]⟩, ⟨#[113]⟩]) hp rfl (by decide) (by decide), inn_blk (l := [⟨#[49, 49]⟩]) hr rfl (by decide) (by decide), by decide, by decide⟩
    | i + 1 => simp at h1
theorem check_ex (c : Ci) (a b l g : Value) (o : Int) (s : ByteArray) (w : World) (h : Cir w a b l g c) (hf : Few c ∧ FewG c.gts ∧ FewZ c.gts) (hq : checkC c = (o, s)) :
    Calls Tryd.prog 15 #[.agg #[a, b, l, g]] w fun e w' => e = .returned (.tuple #[.int .i64 o, .string s]) ∧ Below w.heap.size w w' := by
  have := check_any c a b l g w h hf.1 hf.2.1 hf.2.2
  rwa [hq] at this
theorem nets_ex (c : Ci) (a b l g : Value) (n : List ByteArray) (w : World) (h : Cir w a b l g c) (hf : Few c ∧ FewG c.gts ∧ FewZ c.gts) (hq : netsC c = n) :
    Calls Tryd.prog 18 #[.agg #[a, b, l, g]] w fun e w' => ∃ V, e = .returned V ∧ w'.ownsRow w.heap.size 9 1 V n.length (n.flatMap stc) ∧ Below w.heap.size w w' := by
  subst hq
  exact nets_any c a b l g w h hf.1
theorem place_ex (c : Ci) (a b l g : Value) (s : ByteArray) (o : Int) (w : World) (h : Cir w a b l g c) (hf : Few c) (hq : placeL (netsC c) s = o) :
    Calls Tryd.prog 22 #[.agg #[a, b, l, g], .string s] w fun e w' => e = .returned (.int .i64 o) ∧ Below w.heap.size w w' := by
  subst hq
  exact place_any c a b l g s w h hf
theorem same_ex (c d : Ci) (a b l g a' b' l' g' : Value) (o : Bool) (w : World) (h : Cir w a b l g c) (h' : Cir w a' b' l' g' d) (hf : Few c ∧ FewG c.gts ∧ FewZ c.gts) (hf' : Few d ∧ FewG d.gts ∧ FewZ d.gts) (hq : ciEq c d = o) :
    Calls Tryd.prog 23 #[.agg #[a, b, l, g], .agg #[a', b', l', g']] w fun e w' => e = .returned (.bool o) ∧ Below w.heap.size w w' := by
  subst hq
  exact same_any c d a b l g a' b' l' g' w h h' hf.1 hf'.1 hf.2.1 hf'.2.1
theorem canon0 (vi vr : Value) (w : World) (hi : Inn w vi [⟨#[97]⟩, ⟨#[113]⟩]) (hr : Inn w vr [⟨#[49, 49]⟩]) :
    Calls Tryd.prog 25 #[.agg #[.string ⟨#[122]⟩, .int .i64 10, vi, vr, .bool false]] w fun e w' => ∃ (u : Option Addr) (k : Nat) (p : Option Addr) (m : Nat), e = .returned (.agg #[.string ⟨#[122]⟩, .int .i64 4, .slice u 2 k, .slice p 0 m, .bool false]) ∧ Below w.heap.size w w' := by
  refine (canon_any g0 vi vr w hi hr (by decide) (by decide) (by decide) (by decide)).mono ?_
  rintro e w' ⟨⟨rn, ro, rv, rr, rf⟩, rfl, hat, hb⟩
  have hc : canonF g0 = ⟨⟨#[122]⟩, 4, [⟨#[97]⟩, ⟨#[113]⟩], [], false⟩ := by
    have : opC g0 = (4, true) := by decide +kernel
    unfold canonF
    rw [if_pos (by decide), if_pos (by rw [this]), this]
    rfl
  rw [hc] at hat
  obtain ⟨p, m, hv⟩ := hat.rows.lst.slice
  obtain ⟨u, k, hv2⟩ := hat.ins.lst.slice
  have h1 := hat.name
  have h2 := hat.op
  have h3 := hat.off
  simp only at h1 h2 h3 hv hv2
  subst h1 h2 h3 hv hv2
  exact ⟨u, k, p, m, rfl, hb⟩
theorem gate0 (vi vr : Value) (w : World) (hi : Inn w vi [⟨#[97]⟩, ⟨#[113]⟩]) (hr : Inn w vr [⟨#[49, 49]⟩]) :
    Calls Tryd.prog 27 #[.agg #[.string ⟨#[122]⟩, .int .i64 10, vi, vr, .bool false]] w fun e w' => e = .returned (.bool true) ∧ Below w.heap.size w w' := by
  have := gate_any g0 vi vr w hi hr (by decide) (by decide) (by decide) (by decide)
  rwa [show gateB g0 = true from by decide +kernel] at this
theorem gate1 (w : World) : Calls Tryd.prog 27 #[.agg #[.string ⟨#[]⟩, .int .i64 4, .slice none 0 0, .slice none 0 0, .bool false]] w fun e w' => e = .returned (.bool false) ∧ Below w.heap.size w w' := by
  have := gate_any g1 (.slice none 0 0) (.slice none 0 0) w Inn.none Inn.none (by decide) (by decide) (by decide) (by decide)
  rwa [show gateB g1 = false from by decide +kernel] at this
theorem row_cell {W : World} {B n j : Nat} {v : Value} {b : Option Addr} {c : Nat} {l : List ByteArray} {x : ByteArray} (h : W.ownsRow B 9 1 v n (l.flatMap stc)) (hv : v = .slice b n c) (hx : (l.flatMap stc)[j]? = some (.string x)) : ∃ g, b = some ⟨g, 0, none⟩ ∧ W.cell? ⟨g, j, none⟩ = some (.string x) := by
  subst hv
  have hl := h
  rcases h.2 with ⟨e, hn⟩ | ⟨g, cap, cur, e, _⟩
  · have h1 := h.1
    have h2 := (List.getElem?_eq_some_iff.1 hx).1
    rw [hn] at h1
    omega
  · cases e
    refine ⟨g, rfl, ?_⟩
    have := hl.cells (g := g) rfl j _ hx
    rwa [Addr.add_lit, Nat.zero_add] at this
theorem works_any (w : World) : Calls Tryd.prog 13 #[] w fun e w' => e = .returned (.bool true) ∧ Below w.heap.size w w' := by
  go_enter Tryd.func13, Tryd.ntmps13
  go_wp2_with fail
  have a1 : Below w.heap.size w ((((((((w.alloc (.cells #[.string ⟨#[97]⟩, .string ⟨#[113]⟩] 9)).alloc (.cells #[.string ⟨#[49, 49]⟩] 9)).alloc (.cells #[.string ⟨#[122]⟩, .int .i64 10, .slice (some ⟨w.heap.size, 0, none⟩) 2 2, .slice (some ⟨w.heap.size + 1, 0, none⟩) 1 1, .bool false] 39)).alloc (.cells #[.string ⟨#[97]⟩] 9)).alloc (.cells #[.string ⟨#[122]⟩] 9)).alloc (.cells #[.string ⟨#[113]⟩, .string ⟨#[122]⟩, .int .i64 2] 58)).alloc (.cells #[.string ⟨#[122]⟩, .int .i64 10, .slice (some ⟨w.heap.size, 0, none⟩) 2 2, .slice (some ⟨w.heap.size + 1, 0, none⟩) 1 1, .bool false] 39)).alloc (.cells #[.slice (some ⟨w.heap.size + 3, 0, none⟩) 1 1, .slice (some ⟨w.heap.size + 4, 0, none⟩) 1 1, .slice (some ⟨w.heap.size + 5, 0, none⟩) 1 1, .slice (some ⟨w.heap.size + 6, 0, none⟩) 1 1] 26)) := (((((((((Below.refl w.heap.size w).alloc (by first | exact Nat.le_refl _ | (simp only [World.size_alloc]; omega)) (.cells #[.string ⟨#[97]⟩, .string ⟨#[113]⟩] 9)).alloc (by first | exact Nat.le_refl _ | (simp only [World.size_alloc]; omega)) (.cells #[.string ⟨#[49, 49]⟩] 9)).alloc (by first | exact Nat.le_refl _ | (simp only [World.size_alloc]; omega)) (.cells #[.string ⟨#[122]⟩, .int .i64 10, .slice (some ⟨w.heap.size, 0, none⟩) 2 2, .slice (some ⟨w.heap.size + 1, 0, none⟩) 1 1, .bool false] 39)).alloc (by first | exact Nat.le_refl _ | (simp only [World.size_alloc]; omega)) (.cells #[.string ⟨#[97]⟩] 9)).alloc (by first | exact Nat.le_refl _ | (simp only [World.size_alloc]; omega)) (.cells #[.string ⟨#[122]⟩] 9)).alloc (by first | exact Nat.le_refl _ | (simp only [World.size_alloc]; omega)) (.cells #[.string ⟨#[113]⟩, .string ⟨#[122]⟩, .int .i64 2] 58)).alloc (by first | exact Nat.le_refl _ | (simp only [World.size_alloc]; omega)) (.cells #[.string ⟨#[122]⟩, .int .i64 10, .slice (some ⟨w.heap.size, 0, none⟩) 2 2, .slice (some ⟨w.heap.size + 1, 0, none⟩) 1 1, .bool false] 39)).alloc (by first | exact Nat.le_refl _ | (simp only [World.size_alloc]; omega)) (.cells #[.slice (some ⟨w.heap.size + 3, 0, none⟩) 1 1, .slice (some ⟨w.heap.size + 4, 0, none⟩) 1 1, .slice (some ⟨w.heap.size + 5, 0, none⟩) 1 1, .slice (some ⟨w.heap.size + 6, 0, none⟩) 1 1] 26))
  have p_new0 := ((((((((Blk.new w #[.string ⟨#[97]⟩, .string ⟨#[113]⟩] 9).alloc (.cells #[.string ⟨#[49, 49]⟩] 9)).alloc (.cells #[.string ⟨#[122]⟩, .int .i64 10, .slice (some ⟨w.heap.size, 0, none⟩) 2 2, .slice (some ⟨w.heap.size + 1, 0, none⟩) 1 1, .bool false] 39)).alloc (.cells #[.string ⟨#[97]⟩] 9)).alloc (.cells #[.string ⟨#[122]⟩] 9)).alloc (.cells #[.string ⟨#[113]⟩, .string ⟨#[122]⟩, .int .i64 2] 58)).alloc (.cells #[.string ⟨#[122]⟩, .int .i64 10, .slice (some ⟨w.heap.size, 0, none⟩) 2 2, .slice (some ⟨w.heap.size + 1, 0, none⟩) 1 1, .bool false] 39)).alloc (.cells #[.slice (some ⟨w.heap.size + 3, 0, none⟩) 1 1, .slice (some ⟨w.heap.size + 4, 0, none⟩) 1 1, .slice (some ⟨w.heap.size + 5, 0, none⟩) 1 1, .slice (some ⟨w.heap.size + 6, 0, none⟩) 1 1] 26))
  have Kp_00 := Lib.hid p_new0
  clear p_new0
  have r_new0 := (((((((Blk.new (w.alloc (.cells #[.string ⟨#[97]⟩, .string ⟨#[113]⟩] 9)) #[.string ⟨#[49, 49]⟩] 9).alloc (.cells #[.string ⟨#[122]⟩, .int .i64 10, .slice (some ⟨w.heap.size, 0, none⟩) 2 2, .slice (some ⟨w.heap.size + 1, 0, none⟩) 1 1, .bool false] 39)).alloc (.cells #[.string ⟨#[97]⟩] 9)).alloc (.cells #[.string ⟨#[122]⟩] 9)).alloc (.cells #[.string ⟨#[113]⟩, .string ⟨#[122]⟩, .int .i64 2] 58)).alloc (.cells #[.string ⟨#[122]⟩, .int .i64 10, .slice (some ⟨w.heap.size, 0, none⟩) 2 2, .slice (some ⟨w.heap.size + 1, 0, none⟩) 1 1, .bool false] 39)).alloc (.cells #[.slice (some ⟨w.heap.size + 3, 0, none⟩) 1 1, .slice (some ⟨w.heap.size + 4, 0, none⟩) 1 1, .slice (some ⟨w.heap.size + 5, 0, none⟩) 1 1, .slice (some ⟨w.heap.size + 6, 0, none⟩) 1 1] 26))
  rw [World.size_alloc] at r_new0
  have Kr_00 := Lib.hid r_new0
  clear r_new0
  have G_new0 := ((((((Blk.new ((w.alloc (.cells #[.string ⟨#[97]⟩, .string ⟨#[113]⟩] 9)).alloc (.cells #[.string ⟨#[49, 49]⟩] 9)) #[.string ⟨#[122]⟩, .int .i64 10, .slice (some ⟨w.heap.size, 0, none⟩) 2 2, .slice (some ⟨w.heap.size + 1, 0, none⟩) 1 1, .bool false] 39).alloc (.cells #[.string ⟨#[97]⟩] 9)).alloc (.cells #[.string ⟨#[122]⟩] 9)).alloc (.cells #[.string ⟨#[113]⟩, .string ⟨#[122]⟩, .int .i64 2] 58)).alloc (.cells #[.string ⟨#[122]⟩, .int .i64 10, .slice (some ⟨w.heap.size, 0, none⟩) 2 2, .slice (some ⟨w.heap.size + 1, 0, none⟩) 1 1, .bool false] 39)).alloc (.cells #[.slice (some ⟨w.heap.size + 3, 0, none⟩) 1 1, .slice (some ⟨w.heap.size + 4, 0, none⟩) 1 1, .slice (some ⟨w.heap.size + 5, 0, none⟩) 1 1, .slice (some ⟨w.heap.size + 6, 0, none⟩) 1 1] 26))
  simp only [World.size_alloc, Nat.add_assoc, Nat.reduceAdd] at G_new0
  have KG_00 := Lib.hid G_new0
  clear G_new0
  have i_new0 := (((((Blk.new (((w.alloc (.cells #[.string ⟨#[97]⟩, .string ⟨#[113]⟩] 9)).alloc (.cells #[.string ⟨#[49, 49]⟩] 9)).alloc (.cells #[.string ⟨#[122]⟩, .int .i64 10, .slice (some ⟨w.heap.size, 0, none⟩) 2 2, .slice (some ⟨w.heap.size + 1, 0, none⟩) 1 1, .bool false] 39)) #[.string ⟨#[97]⟩] 9).alloc (.cells #[.string ⟨#[122]⟩] 9)).alloc (.cells #[.string ⟨#[113]⟩, .string ⟨#[122]⟩, .int .i64 2] 58)).alloc (.cells #[.string ⟨#[122]⟩, .int .i64 10, .slice (some ⟨w.heap.size, 0, none⟩) 2 2, .slice (some ⟨w.heap.size + 1, 0, none⟩) 1 1, .bool false] 39)).alloc (.cells #[.slice (some ⟨w.heap.size + 3, 0, none⟩) 1 1, .slice (some ⟨w.heap.size + 4, 0, none⟩) 1 1, .slice (some ⟨w.heap.size + 5, 0, none⟩) 1 1, .slice (some ⟨w.heap.size + 6, 0, none⟩) 1 1] 26))
  simp only [World.size_alloc, Nat.add_assoc, Nat.reduceAdd] at i_new0
  have Ki_00 := Lib.hid i_new0
  clear i_new0
  have o_new0 := ((((Blk.new ((((w.alloc (.cells #[.string ⟨#[97]⟩, .string ⟨#[113]⟩] 9)).alloc (.cells #[.string ⟨#[49, 49]⟩] 9)).alloc (.cells #[.string ⟨#[122]⟩, .int .i64 10, .slice (some ⟨w.heap.size, 0, none⟩) 2 2, .slice (some ⟨w.heap.size + 1, 0, none⟩) 1 1, .bool false] 39)).alloc (.cells #[.string ⟨#[97]⟩] 9)) #[.string ⟨#[122]⟩] 9).alloc (.cells #[.string ⟨#[113]⟩, .string ⟨#[122]⟩, .int .i64 2] 58)).alloc (.cells #[.string ⟨#[122]⟩, .int .i64 10, .slice (some ⟨w.heap.size, 0, none⟩) 2 2, .slice (some ⟨w.heap.size + 1, 0, none⟩) 1 1, .bool false] 39)).alloc (.cells #[.slice (some ⟨w.heap.size + 3, 0, none⟩) 1 1, .slice (some ⟨w.heap.size + 4, 0, none⟩) 1 1, .slice (some ⟨w.heap.size + 5, 0, none⟩) 1 1, .slice (some ⟨w.heap.size + 6, 0, none⟩) 1 1] 26))
  simp only [World.size_alloc, Nat.add_assoc, Nat.reduceAdd] at o_new0
  have Ko_00 := Lib.hid o_new0
  clear o_new0
  have l_new0 := (((Blk.new (((((w.alloc (.cells #[.string ⟨#[97]⟩, .string ⟨#[113]⟩] 9)).alloc (.cells #[.string ⟨#[49, 49]⟩] 9)).alloc (.cells #[.string ⟨#[122]⟩, .int .i64 10, .slice (some ⟨w.heap.size, 0, none⟩) 2 2, .slice (some ⟨w.heap.size + 1, 0, none⟩) 1 1, .bool false] 39)).alloc (.cells #[.string ⟨#[97]⟩] 9)).alloc (.cells #[.string ⟨#[122]⟩] 9)) #[.string ⟨#[113]⟩, .string ⟨#[122]⟩, .int .i64 2] 58).alloc (.cells #[.string ⟨#[122]⟩, .int .i64 10, .slice (some ⟨w.heap.size, 0, none⟩) 2 2, .slice (some ⟨w.heap.size + 1, 0, none⟩) 1 1, .bool false] 39)).alloc (.cells #[.slice (some ⟨w.heap.size + 3, 0, none⟩) 1 1, .slice (some ⟨w.heap.size + 4, 0, none⟩) 1 1, .slice (some ⟨w.heap.size + 5, 0, none⟩) 1 1, .slice (some ⟨w.heap.size + 6, 0, none⟩) 1 1] 26))
  simp only [World.size_alloc, Nat.add_assoc, Nat.reduceAdd] at l_new0
  have Kl_00 := Lib.hid l_new0
  clear l_new0
  have e_new0 := ((Blk.new ((((((w.alloc (.cells #[.string ⟨#[97]⟩, .string ⟨#[113]⟩] 9)).alloc (.cells #[.string ⟨#[49, 49]⟩] 9)).alloc (.cells #[.string ⟨#[122]⟩, .int .i64 10, .slice (some ⟨w.heap.size, 0, none⟩) 2 2, .slice (some ⟨w.heap.size + 1, 0, none⟩) 1 1, .bool false] 39)).alloc (.cells #[.string ⟨#[97]⟩] 9)).alloc (.cells #[.string ⟨#[122]⟩] 9)).alloc (.cells #[.string ⟨#[113]⟩, .string ⟨#[122]⟩, .int .i64 2] 58)) #[.string ⟨#[122]⟩, .int .i64 10, .slice (some ⟨w.heap.size, 0, none⟩) 2 2, .slice (some ⟨w.heap.size + 1, 0, none⟩) 1 1, .bool false] 39).alloc (.cells #[.slice (some ⟨w.heap.size + 3, 0, none⟩) 1 1, .slice (some ⟨w.heap.size + 4, 0, none⟩) 1 1, .slice (some ⟨w.heap.size + 5, 0, none⟩) 1 1, .slice (some ⟨w.heap.size + 6, 0, none⟩) 1 1] 26))
  simp only [World.size_alloc, Nat.add_assoc, Nat.reduceAdd] at e_new0
  have Ke_00 := Lib.hid e_new0
  clear e_new0
  have C_new0 := (Blk.new (((((((w.alloc (.cells #[.string ⟨#[97]⟩, .string ⟨#[113]⟩] 9)).alloc (.cells #[.string ⟨#[49, 49]⟩] 9)).alloc (.cells #[.string ⟨#[122]⟩, .int .i64 10, .slice (some ⟨w.heap.size, 0, none⟩) 2 2, .slice (some ⟨w.heap.size + 1, 0, none⟩) 1 1, .bool false] 39)).alloc (.cells #[.string ⟨#[97]⟩] 9)).alloc (.cells #[.string ⟨#[122]⟩] 9)).alloc (.cells #[.string ⟨#[113]⟩, .string ⟨#[122]⟩, .int .i64 2] 58)).alloc (.cells #[.string ⟨#[122]⟩, .int .i64 10, .slice (some ⟨w.heap.size, 0, none⟩) 2 2, .slice (some ⟨w.heap.size + 1, 0, none⟩) 1 1, .bool false] 39)) #[.slice (some ⟨w.heap.size + 3, 0, none⟩) 1 1, .slice (some ⟨w.heap.size + 4, 0, none⟩) 1 1, .slice (some ⟨w.heap.size + 5, 0, none⟩) 1 1, .slice (some ⟨w.heap.size + 6, 0, none⟩) 1 1] 26)
  simp only [World.size_alloc, Nat.add_assoc, Nat.reduceAdd] at C_new0
  have KC_00 := Lib.hid C_new0
  clear C_new0
  have B_1 := Lib.hid a1
  clear a1
  generalize ((((((((w.alloc (.cells #[.string ⟨#[97]⟩, .string ⟨#[113]⟩] 9)).alloc (.cells #[.string ⟨#[49, 49]⟩] 9)).alloc (.cells #[.string ⟨#[122]⟩, .int .i64 10, .slice (some ⟨w.heap.size, 0, none⟩) 2 2, .slice (some ⟨w.heap.size + 1, 0, none⟩) 1 1, .bool false] 39)).alloc (.cells #[.string ⟨#[97]⟩] 9)).alloc (.cells #[.string ⟨#[122]⟩] 9)).alloc (.cells #[.string ⟨#[113]⟩, .string ⟨#[122]⟩, .int .i64 2] 58)).alloc (.cells #[.string ⟨#[122]⟩, .int .i64 10, .slice (some ⟨w.heap.size, 0, none⟩) 2 2, .slice (some ⟨w.heap.size + 1, 0, none⟩) 1 1, .bool false] 39)).alloc (.cells #[.slice (some ⟨w.heap.size + 3, 0, none⟩) 1 1, .slice (some ⟨w.heap.size + 4, 0, none⟩) 1 1, .slice (some ⟨w.heap.size + 5, 0, none⟩) 1 1, .slice (some ⟨w.heap.size + 6, 0, none⟩) 1 1] 26)) = w1 at Kp_00 Kr_00 KG_00 Ki_00 Ko_00 Kl_00 Ke_00 KC_00 B_1 ⊢
  refine (check_ex c0 _ _ _ _ 0 ⟨#[]⟩ _ (cir_blk (os := [⟨#[122]⟩]) Ki_00.out Ko_00.out rfl (by decide) (by decide) Kl_00.out Ke_00.out Kp_00.out Kr_00.out) few_c0 (by decide +kernel)).mono ?_
  rintro e w2 ⟨rfl, b2⟩
  have Kp_2 := Lib.hid (Kp_00.out.below b2 Kp_00.out.lt)
  clear Kp_00
  have Kr_2 := Lib.hid (Kr_00.out.below b2 Kr_00.out.lt)
  clear Kr_00
  have KG_2 := Lib.hid (KG_00.out.below b2 KG_00.out.lt)
  clear KG_00
  have Ki_2 := Lib.hid (Ki_00.out.below b2 Ki_00.out.lt)
  clear Ki_00
  have Ko_2 := Lib.hid (Ko_00.out.below b2 Ko_00.out.lt)
  clear Ko_00
  have Kl_2 := Lib.hid (Kl_00.out.below b2 Kl_00.out.lt)
  clear Kl_00
  have Ke_2 := Lib.hid (Ke_00.out.below b2 Ke_00.out.lt)
  clear Ke_00
  have KC_2 := Lib.hid (KC_00.out.below b2 KC_00.out.lt)
  clear KC_00
  have B_2 := Lib.hid (B_1.out.trans (b2.mono B_1.out.size))
  clear B_1
  clear b2
  have lG_2 : w.heap.size + 2 < w2.heap.size := KG_2.out.lt
  have cG_0_2 : w2.cell? ⟨w.heap.size + 2, 0, none⟩ = some (.string ⟨#[122]⟩) := KG_2.out.cell 0
  have cG_1_2 : w2.cell? ⟨w.heap.size + 2, 1, none⟩ = some (.int .i64 10) := KG_2.out.cell 1
  have cG_2_2 : w2.cell? ⟨w.heap.size + 2, 2, none⟩ = some (.slice (some ⟨w.heap.size, 0, none⟩) 2 2) := KG_2.out.cell 2
  have cG_3_2 : w2.cell? ⟨w.heap.size + 2, 3, none⟩ = some (.slice (some ⟨w.heap.size + 1, 0, none⟩) 1 1) := KG_2.out.cell 3
  have cG_4_2 : w2.cell? ⟨w.heap.size + 2, 4, none⟩ = some (.bool false) := KG_2.out.cell 4
  have lC_2 : w.heap.size + 7 < w2.heap.size := KC_2.out.lt
  have cC_0_2 : w2.cell? ⟨w.heap.size + 7, 0, none⟩ = some (.slice (some ⟨w.heap.size + 3, 0, none⟩) 1 1) := KC_2.out.cell 0
  have cC_1_2 : w2.cell? ⟨w.heap.size + 7, 1, none⟩ = some (.slice (some ⟨w.heap.size + 4, 0, none⟩) 1 1) := KC_2.out.cell 1
  have cC_2_2 : w2.cell? ⟨w.heap.size + 7, 2, none⟩ = some (.slice (some ⟨w.heap.size + 5, 0, none⟩) 1 1) := KC_2.out.cell 2
  have cC_3_2 : w2.cell? ⟨w.heap.size + 7, 3, none⟩ = some (.slice (some ⟨w.heap.size + 6, 0, none⟩) 1 1) := KC_2.out.cell 3
  go_wp2_with fail
  clear lG_2 cG_0_2 cG_1_2 cG_2_2 cG_3_2 cG_4_2 lC_2 cC_0_2 cC_1_2 cC_2_2 cC_3_2
  refine (canon0 _ _ _ (inn_blk (l := [⟨#[97]⟩, ⟨#[113]⟩]) Kp_2.out rfl (by decide) (by decide)) (inn_blk (l := [⟨#[49, 49]⟩]) Kr_2.out rfl (by decide) (by decide))).mono ?_
  rintro e w3 ⟨cu, ck, cp, cm, rfl, b3⟩
  have Kp_3 := Lib.hid (Kp_2.out.below b3 Kp_2.out.lt)
  clear Kp_2
  have Kr_3 := Lib.hid (Kr_2.out.below b3 Kr_2.out.lt)
  clear Kr_2
  have KG_3 := Lib.hid (KG_2.out.below b3 KG_2.out.lt)
  clear KG_2
  have Ki_3 := Lib.hid (Ki_2.out.below b3 Ki_2.out.lt)
  clear Ki_2
  have Ko_3 := Lib.hid (Ko_2.out.below b3 Ko_2.out.lt)
  clear Ko_2
  have Kl_3 := Lib.hid (Kl_2.out.below b3 Kl_2.out.lt)
  clear Kl_2
  have Ke_3 := Lib.hid (Ke_2.out.below b3 Ke_2.out.lt)
  clear Ke_2
  have KC_3 := Lib.hid (KC_2.out.below b3 KC_2.out.lt)
  clear KC_2
  have B_3 := Lib.hid (B_2.out.trans (b3.mono B_2.out.size))
  clear B_2
  clear b3
  have lC_3 : w.heap.size + 7 < w3.heap.size := KC_3.out.lt
  have cC_0_3 : w3.cell? ⟨w.heap.size + 7, 0, none⟩ = some (.slice (some ⟨w.heap.size + 3, 0, none⟩) 1 1) := KC_3.out.cell 0
  have cC_1_3 : w3.cell? ⟨w.heap.size + 7, 1, none⟩ = some (.slice (some ⟨w.heap.size + 4, 0, none⟩) 1 1) := KC_3.out.cell 1
  have cC_2_3 : w3.cell? ⟨w.heap.size + 7, 2, none⟩ = some (.slice (some ⟨w.heap.size + 5, 0, none⟩) 1 1) := KC_3.out.cell 2
  have cC_3_3 : w3.cell? ⟨w.heap.size + 7, 3, none⟩ = some (.slice (some ⟨w.heap.size + 6, 0, none⟩) 1 1) := KC_3.out.cell 3
  go_wp2_with fail
  clear lC_3 cC_0_3 cC_1_3 cC_2_3 cC_3_3
  have a2 : Below w3.heap.size w3 (((w3.alloc (.cells #[.string ⟨#[122]⟩, .int .i64 4, .slice cu 2 ck, .slice cp 0 cm, .bool false] 39)).alloc (.cells #[.slice (some ⟨w.heap.size + 3, 0, none⟩) 1 1, .slice (some ⟨w3.heap.size + 2, 0, none⟩) 2 2, .slice (some ⟨w.heap.size + 5, 0, none⟩) 1 1, .slice (some ⟨w.heap.size + 6, 0, none⟩) 1 1] 26)).alloc (.cells #[.string ⟨#[122]⟩, .string ⟨#[121]⟩] 9)) := ((((Below.refl w3.heap.size w3).alloc (by first | exact Nat.le_refl _ | (simp only [World.size_alloc]; omega)) (.cells #[.string ⟨#[122]⟩, .int .i64 4, .slice cu 2 ck, .slice cp 0 cm, .bool false] 39)).alloc (by first | exact Nat.le_refl _ | (simp only [World.size_alloc]; omega)) (.cells #[.slice (some ⟨w.heap.size + 3, 0, none⟩) 1 1, .slice (some ⟨w3.heap.size + 2, 0, none⟩) 2 2, .slice (some ⟨w.heap.size + 5, 0, none⟩) 1 1, .slice (some ⟨w.heap.size + 6, 0, none⟩) 1 1] 26)).alloc (by first | exact Nat.le_refl _ | (simp only [World.size_alloc]; omega)) (.cells #[.string ⟨#[122]⟩, .string ⟨#[121]⟩] 9))
  have X_new3 := (((Blk.new w3 #[.string ⟨#[122]⟩, .int .i64 4, .slice cu 2 ck, .slice cp 0 cm, .bool false] 39).alloc (.cells #[.slice (some ⟨w.heap.size + 3, 0, none⟩) 1 1, .slice (some ⟨w3.heap.size + 2, 0, none⟩) 2 2, .slice (some ⟨w.heap.size + 5, 0, none⟩) 1 1, .slice (some ⟨w.heap.size + 6, 0, none⟩) 1 1] 26)).alloc (.cells #[.string ⟨#[122]⟩, .string ⟨#[121]⟩] 9))
  have KX_03 := Lib.hid X_new3
  clear X_new3
  have E_new3 := ((Blk.new (w3.alloc (.cells #[.string ⟨#[122]⟩, .int .i64 4, .slice cu 2 ck, .slice cp 0 cm, .bool false] 39)) #[.slice (some ⟨w.heap.size + 3, 0, none⟩) 1 1, .slice (some ⟨w3.heap.size + 2, 0, none⟩) 2 2, .slice (some ⟨w.heap.size + 5, 0, none⟩) 1 1, .slice (some ⟨w.heap.size + 6, 0, none⟩) 1 1] 26).alloc (.cells #[.string ⟨#[122]⟩, .string ⟨#[121]⟩] 9))
  rw [World.size_alloc] at E_new3
  have KE_03 := Lib.hid E_new3
  clear E_new3
  have o2_new3 := (Blk.new ((w3.alloc (.cells #[.string ⟨#[122]⟩, .int .i64 4, .slice cu 2 ck, .slice cp 0 cm, .bool false] 39)).alloc (.cells #[.slice (some ⟨w.heap.size + 3, 0, none⟩) 1 1, .slice (some ⟨w3.heap.size + 2, 0, none⟩) 2 2, .slice (some ⟨w.heap.size + 5, 0, none⟩) 1 1, .slice (some ⟨w.heap.size + 6, 0, none⟩) 1 1] 26)) #[.string ⟨#[122]⟩, .string ⟨#[121]⟩] 9)
  simp only [World.size_alloc, Nat.add_assoc, Nat.reduceAdd] at o2_new3
  have Ko2_03 := Lib.hid o2_new3
  clear o2_new3
  have Kp_4 := Lib.hid (Kp_3.out.below a2 Kp_3.out.lt)
  clear Kp_3
  have Kr_4 := Lib.hid (Kr_3.out.below a2 Kr_3.out.lt)
  clear Kr_3
  have KG_4 := Lib.hid (KG_3.out.below a2 KG_3.out.lt)
  clear KG_3
  have Ki_4 := Lib.hid (Ki_3.out.below a2 Ki_3.out.lt)
  clear Ki_3
  have Ko_4 := Lib.hid (Ko_3.out.below a2 Ko_3.out.lt)
  clear Ko_3
  have Kl_4 := Lib.hid (Kl_3.out.below a2 Kl_3.out.lt)
  clear Kl_3
  have Ke_4 := Lib.hid (Ke_3.out.below a2 Ke_3.out.lt)
  clear Ke_3
  have KC_4 := Lib.hid (KC_3.out.below a2 KC_3.out.lt)
  clear KC_3
  have B_4 := Lib.hid (B_3.out.trans (a2.mono B_3.out.size))
  clear B_3
  clear a2
  generalize (((w3.alloc (.cells #[.string ⟨#[122]⟩, .int .i64 4, .slice cu 2 ck, .slice cp 0 cm, .bool false] 39)).alloc (.cells #[.slice (some ⟨w.heap.size + 3, 0, none⟩) 1 1, .slice (some ⟨w3.heap.size + 2, 0, none⟩) 2 2, .slice (some ⟨w.heap.size + 5, 0, none⟩) 1 1, .slice (some ⟨w.heap.size + 6, 0, none⟩) 1 1] 26)).alloc (.cells #[.string ⟨#[122]⟩, .string ⟨#[121]⟩] 9)) = w4 at Kp_4 Kr_4 KG_4 Ki_4 Ko_4 Kl_4 Ke_4 KC_4 KX_03 KE_03 Ko2_03 B_4 ⊢
  refine (check_ex d0 _ _ _ _ 6 ⟨#[121]⟩ _ (cir_blk (os := [⟨#[122]⟩, ⟨#[121]⟩]) Ki_4.out Ko2_03.out rfl (by decide) (by decide) Kl_4.out Ke_4.out Kp_4.out Kr_4.out) few_d0 (by decide +kernel)).mono ?_
  rintro e w5 ⟨rfl, b5⟩
  have Kp_5 := Lib.hid (Kp_4.out.below b5 Kp_4.out.lt)
  clear Kp_4
  have Kr_5 := Lib.hid (Kr_4.out.below b5 Kr_4.out.lt)
  clear Kr_4
  have KG_5 := Lib.hid (KG_4.out.below b5 KG_4.out.lt)
  clear KG_4
  have Ki_5 := Lib.hid (Ki_4.out.below b5 Ki_4.out.lt)
  clear Ki_4
  have Ko_5 := Lib.hid (Ko_4.out.below b5 Ko_4.out.lt)
  clear Ko_4
  have Kl_5 := Lib.hid (Kl_4.out.below b5 Kl_4.out.lt)
  clear Kl_4
  have Ke_5 := Lib.hid (Ke_4.out.below b5 Ke_4.out.lt)
  clear Ke_4
  have KC_5 := Lib.hid (KC_4.out.below b5 KC_4.out.lt)
  clear KC_4
  have KX_5 := Lib.hid (KX_03.out.below b5 KX_03.out.lt)
  clear KX_03
  have KE_5 := Lib.hid (KE_03.out.below b5 KE_03.out.lt)
  clear KE_03
  have Ko2_5 := Lib.hid (Ko2_03.out.below b5 Ko2_03.out.lt)
  clear Ko2_03
  have B_5 := Lib.hid (B_4.out.trans (b5.mono B_4.out.size))
  clear B_4
  clear b5
  have lC_5 : w.heap.size + 7 < w5.heap.size := KC_5.out.lt
  have cC_0_5 : w5.cell? ⟨w.heap.size + 7, 0, none⟩ = some (.slice (some ⟨w.heap.size + 3, 0, none⟩) 1 1) := KC_5.out.cell 0
  have cC_1_5 : w5.cell? ⟨w.heap.size + 7, 1, none⟩ = some (.slice (some ⟨w.heap.size + 4, 0, none⟩) 1 1) := KC_5.out.cell 1
  have cC_2_5 : w5.cell? ⟨w.heap.size + 7, 2, none⟩ = some (.slice (some ⟨w.heap.size + 5, 0, none⟩) 1 1) := KC_5.out.cell 2
  have cC_3_5 : w5.cell? ⟨w.heap.size + 7, 3, none⟩ = some (.slice (some ⟨w.heap.size + 6, 0, none⟩) 1 1) := KC_5.out.cell 3
  go_wp2_with fail
  clear lC_5 cC_0_5 cC_1_5 cC_2_5 cC_3_5
  refine (nets_ex c0 _ _ _ _ [⟨#[97]⟩, ⟨#[113]⟩, ⟨#[122]⟩] _ (cir_blk (os := [⟨#[122]⟩]) Ki_5.out Ko_5.out rfl (by decide) (by decide) Kl_5.out Ke_5.out Kp_5.out Kr_5.out) few_c0 rfl).mono ?_
  rintro e w6 ⟨V, rfl, hv, b6⟩
  have Kp_6 := Lib.hid (Kp_5.out.below b6 Kp_5.out.lt)
  clear Kp_5
  have Kr_6 := Lib.hid (Kr_5.out.below b6 Kr_5.out.lt)
  clear Kr_5
  have KG_6 := Lib.hid (KG_5.out.below b6 KG_5.out.lt)
  clear KG_5
  have Ki_6 := Lib.hid (Ki_5.out.below b6 Ki_5.out.lt)
  clear Ki_5
  have Ko_6 := Lib.hid (Ko_5.out.below b6 Ko_5.out.lt)
  clear Ko_5
  have Kl_6 := Lib.hid (Kl_5.out.below b6 Kl_5.out.lt)
  clear Kl_5
  have Ke_6 := Lib.hid (Ke_5.out.below b6 Ke_5.out.lt)
  clear Ke_5
  have KC_6 := Lib.hid (KC_5.out.below b6 KC_5.out.lt)
  clear KC_5
  have KX_6 := Lib.hid (KX_5.out.below b6 KX_5.out.lt)
  clear KX_5
  have KE_6 := Lib.hid (KE_5.out.below b6 KE_5.out.lt)
  clear KE_5
  have Ko2_6 := Lib.hid (Ko2_5.out.below b6 Ko2_5.out.lt)
  clear Ko2_5
  have B_6 := Lib.hid (B_5.out.trans (b6.mono B_5.out.size))
  clear B_5
  clear b6
  change World.ownsRow _ _ 9 1 V 3 _ at hv
  obtain ⟨vb, vc, rfl⟩ := row_slice hv
  obtain ⟨vg, ev, cv⟩ := row_cell (j := 1) (l := [⟨#[97]⟩, ⟨#[113]⟩, ⟨#[122]⟩]) (x := ⟨#[113]⟩) hv rfl rfl
  subst ev
  clear hv
  have lC_6 : w.heap.size + 7 < w6.heap.size := KC_6.out.lt
  have cC_0_6 : w6.cell? ⟨w.heap.size + 7, 0, none⟩ = some (.slice (some ⟨w.heap.size + 3, 0, none⟩) 1 1) := KC_6.out.cell 0
  have cC_1_6 : w6.cell? ⟨w.heap.size + 7, 1, none⟩ = some (.slice (some ⟨w.heap.size + 4, 0, none⟩) 1 1) := KC_6.out.cell 1
  have cC_2_6 : w6.cell? ⟨w.heap.size + 7, 2, none⟩ = some (.slice (some ⟨w.heap.size + 5, 0, none⟩) 1 1) := KC_6.out.cell 2
  have cC_3_6 : w6.cell? ⟨w.heap.size + 7, 3, none⟩ = some (.slice (some ⟨w.heap.size + 6, 0, none⟩) 1 1) := KC_6.out.cell 3
  have lX_6 : w3.heap.size < w6.heap.size := KX_6.out.lt
  have cX_0_6 : w6.cell? ⟨w3.heap.size, 0, none⟩ = some (.string ⟨#[122]⟩) := KX_6.out.cell 0
  have cX_1_6 : w6.cell? ⟨w3.heap.size, 1, none⟩ = some (.int .i64 4) := KX_6.out.cell 1
  have cX_2_6 : w6.cell? ⟨w3.heap.size, 2, none⟩ = some (.slice cu 2 ck) := KX_6.out.cell 2
  have cX_3_6 : w6.cell? ⟨w3.heap.size, 3, none⟩ = some (.slice cp 0 cm) := KX_6.out.cell 3
  have cX_4_6 : w6.cell? ⟨w3.heap.size, 4, none⟩ = some (.bool false) := KX_6.out.cell 4
  go_wp2_with fail
  clear cv
  clear lC_6 cC_0_6 cC_1_6 cC_2_6 cC_3_6 lX_6 cX_0_6 cX_1_6 cX_2_6 cX_3_6 cX_4_6
  refine (place_ex c0 _ _ _ _ ⟨#[122]⟩ 2 _ (cir_blk (os := [⟨#[122]⟩]) Ki_6.out Ko_6.out rfl (by decide) (by decide) Kl_6.out Ke_6.out Kp_6.out Kr_6.out) few_c0.1 (by decide +kernel)).mono ?_
  rintro e w7 ⟨rfl, b7⟩
  have Kp_7 := Lib.hid (Kp_6.out.below b7 Kp_6.out.lt)
  clear Kp_6
  have Kr_7 := Lib.hid (Kr_6.out.below b7 Kr_6.out.lt)
  clear Kr_6
  have KG_7 := Lib.hid (KG_6.out.below b7 KG_6.out.lt)
  clear KG_6
  have Ki_7 := Lib.hid (Ki_6.out.below b7 Ki_6.out.lt)
  clear Ki_6
  have Ko_7 := Lib.hid (Ko_6.out.below b7 Ko_6.out.lt)
  clear Ko_6
  have Kl_7 := Lib.hid (Kl_6.out.below b7 Kl_6.out.lt)
  clear Kl_6
  have Ke_7 := Lib.hid (Ke_6.out.below b7 Ke_6.out.lt)
  clear Ke_6
  have KC_7 := Lib.hid (KC_6.out.below b7 KC_6.out.lt)
  clear KC_6
  have KX_7 := Lib.hid (KX_6.out.below b7 KX_6.out.lt)
  clear KX_6
  have KE_7 := Lib.hid (KE_6.out.below b7 KE_6.out.lt)
  clear KE_6
  have Ko2_7 := Lib.hid (Ko2_6.out.below b7 Ko2_6.out.lt)
  clear Ko2_6
  have B_7 := Lib.hid (B_6.out.trans (b7.mono B_6.out.size))
  clear B_6
  clear b7
  have lC_7 : w.heap.size + 7 < w7.heap.size := KC_7.out.lt
  have cC_0_7 : w7.cell? ⟨w.heap.size + 7, 0, none⟩ = some (.slice (some ⟨w.heap.size + 3, 0, none⟩) 1 1) := KC_7.out.cell 0
  have cC_1_7 : w7.cell? ⟨w.heap.size + 7, 1, none⟩ = some (.slice (some ⟨w.heap.size + 4, 0, none⟩) 1 1) := KC_7.out.cell 1
  have cC_2_7 : w7.cell? ⟨w.heap.size + 7, 2, none⟩ = some (.slice (some ⟨w.heap.size + 5, 0, none⟩) 1 1) := KC_7.out.cell 2
  have cC_3_7 : w7.cell? ⟨w.heap.size + 7, 3, none⟩ = some (.slice (some ⟨w.heap.size + 6, 0, none⟩) 1 1) := KC_7.out.cell 3
  go_wp2_with fail
  clear lC_7 cC_0_7 cC_1_7 cC_2_7 cC_3_7
  refine (place_ex c0 _ _ _ _ ⟨#[121]⟩ (-1) _ (cir_blk (os := [⟨#[122]⟩]) Ki_7.out Ko_7.out rfl (by decide) (by decide) Kl_7.out Ke_7.out Kp_7.out Kr_7.out) few_c0.1 (by decide +kernel)).mono ?_
  rintro e w8 ⟨rfl, b8⟩
  have Kp_8 := Lib.hid (Kp_7.out.below b8 Kp_7.out.lt)
  clear Kp_7
  have Kr_8 := Lib.hid (Kr_7.out.below b8 Kr_7.out.lt)
  clear Kr_7
  have KG_8 := Lib.hid (KG_7.out.below b8 KG_7.out.lt)
  clear KG_7
  have Ki_8 := Lib.hid (Ki_7.out.below b8 Ki_7.out.lt)
  clear Ki_7
  have Ko_8 := Lib.hid (Ko_7.out.below b8 Ko_7.out.lt)
  clear Ko_7
  have Kl_8 := Lib.hid (Kl_7.out.below b8 Kl_7.out.lt)
  clear Kl_7
  have Ke_8 := Lib.hid (Ke_7.out.below b8 Ke_7.out.lt)
  clear Ke_7
  have KC_8 := Lib.hid (KC_7.out.below b8 KC_7.out.lt)
  clear KC_7
  have KX_8 := Lib.hid (KX_7.out.below b8 KX_7.out.lt)
  clear KX_7
  have KE_8 := Lib.hid (KE_7.out.below b8 KE_7.out.lt)
  clear KE_7
  have Ko2_8 := Lib.hid (Ko2_7.out.below b8 Ko2_7.out.lt)
  clear Ko2_7
  have B_8 := Lib.hid (B_7.out.trans (b8.mono B_7.out.size))
  clear B_7
  clear b8
  have lG_8 : w.heap.size + 2 < w8.heap.size := KG_8.out.lt
  have cG_0_8 : w8.cell? ⟨w.heap.size + 2, 0, none⟩ = some (.string ⟨#[122]⟩) := KG_8.out.cell 0
  have cG_1_8 : w8.cell? ⟨w.heap.size + 2, 1, none⟩ = some (.int .i64 10) := KG_8.out.cell 1
  have cG_2_8 : w8.cell? ⟨w.heap.size + 2, 2, none⟩ = some (.slice (some ⟨w.heap.size, 0, none⟩) 2 2) := KG_8.out.cell 2
  have cG_3_8 : w8.cell? ⟨w.heap.size + 2, 3, none⟩ = some (.slice (some ⟨w.heap.size + 1, 0, none⟩) 1 1) := KG_8.out.cell 3
  have cG_4_8 : w8.cell? ⟨w.heap.size + 2, 4, none⟩ = some (.bool false) := KG_8.out.cell 4
  go_wp2_with fail
  clear lG_8 cG_0_8 cG_1_8 cG_2_8 cG_3_8 cG_4_8
  refine (gate0 _ _ _ (inn_blk (l := [⟨#[97]⟩, ⟨#[113]⟩]) Kp_8.out rfl (by decide) (by decide)) (inn_blk (l := [⟨#[49, 49]⟩]) Kr_8.out rfl (by decide) (by decide))).mono ?_
  rintro e w9 ⟨rfl, b9⟩
  have Kp_9 := Lib.hid (Kp_8.out.below b9 Kp_8.out.lt)
  clear Kp_8
  have Kr_9 := Lib.hid (Kr_8.out.below b9 Kr_8.out.lt)
  clear Kr_8
  have KG_9 := Lib.hid (KG_8.out.below b9 KG_8.out.lt)
  clear KG_8
  have Ki_9 := Lib.hid (Ki_8.out.below b9 Ki_8.out.lt)
  clear Ki_8
  have Ko_9 := Lib.hid (Ko_8.out.below b9 Ko_8.out.lt)
  clear Ko_8
  have Kl_9 := Lib.hid (Kl_8.out.below b9 Kl_8.out.lt)
  clear Kl_8
  have Ke_9 := Lib.hid (Ke_8.out.below b9 Ke_8.out.lt)
  clear Ke_8
  have KC_9 := Lib.hid (KC_8.out.below b9 KC_8.out.lt)
  clear KC_8
  have KX_9 := Lib.hid (KX_8.out.below b9 KX_8.out.lt)
  clear KX_8
  have KE_9 := Lib.hid (KE_8.out.below b9 KE_8.out.lt)
  clear KE_8
  have Ko2_9 := Lib.hid (Ko2_8.out.below b9 Ko2_8.out.lt)
  clear Ko2_8
  have B_9 := Lib.hid (B_8.out.trans (b9.mono B_8.out.size))
  clear B_8
  clear b9
  go_wp2_with fail
  refine (gate1 _).mono ?_
  rintro e w10 ⟨rfl, b10⟩
  have Kp_10 := Lib.hid (Kp_9.out.below b10 Kp_9.out.lt)
  clear Kp_9
  have Kr_10 := Lib.hid (Kr_9.out.below b10 Kr_9.out.lt)
  clear Kr_9
  have KG_10 := Lib.hid (KG_9.out.below b10 KG_9.out.lt)
  clear KG_9
  have Ki_10 := Lib.hid (Ki_9.out.below b10 Ki_9.out.lt)
  clear Ki_9
  have Ko_10 := Lib.hid (Ko_9.out.below b10 Ko_9.out.lt)
  clear Ko_9
  have Kl_10 := Lib.hid (Kl_9.out.below b10 Kl_9.out.lt)
  clear Kl_9
  have Ke_10 := Lib.hid (Ke_9.out.below b10 Ke_9.out.lt)
  clear Ke_9
  have KC_10 := Lib.hid (KC_9.out.below b10 KC_9.out.lt)
  clear KC_9
  have KX_10 := Lib.hid (KX_9.out.below b10 KX_9.out.lt)
  clear KX_9
  have KE_10 := Lib.hid (KE_9.out.below b10 KE_9.out.lt)
  clear KE_9
  have Ko2_10 := Lib.hid (Ko2_9.out.below b10 Ko2_9.out.lt)
  clear Ko2_9
  have B_10 := Lib.hid (B_9.out.trans (b10.mono B_9.out.size))
  clear B_9
  clear b10
  have lC_10 : w.heap.size + 7 < w10.heap.size := KC_10.out.lt
  have cC_0_10 : w10.cell? ⟨w.heap.size + 7, 0, none⟩ = some (.slice (some ⟨w.heap.size + 3, 0, none⟩) 1 1) := KC_10.out.cell 0
  have cC_1_10 : w10.cell? ⟨w.heap.size + 7, 1, none⟩ = some (.slice (some ⟨w.heap.size + 4, 0, none⟩) 1 1) := KC_10.out.cell 1
  have cC_2_10 : w10.cell? ⟨w.heap.size + 7, 2, none⟩ = some (.slice (some ⟨w.heap.size + 5, 0, none⟩) 1 1) := KC_10.out.cell 2
  have cC_3_10 : w10.cell? ⟨w.heap.size + 7, 3, none⟩ = some (.slice (some ⟨w.heap.size + 6, 0, none⟩) 1 1) := KC_10.out.cell 3
  go_wp2_with fail
  clear lC_10 cC_0_10 cC_1_10 cC_2_10 cC_3_10
  refine (same_ex c0 c0 _ _ _ _ _ _ _ _ true _ (cir_blk (os := [⟨#[122]⟩]) Ki_10.out Ko_10.out rfl (by decide) (by decide) Kl_10.out Ke_10.out Kp_10.out Kr_10.out) (cir_blk (os := [⟨#[122]⟩]) Ki_10.out Ko_10.out rfl (by decide) (by decide) Kl_10.out Ke_10.out Kp_10.out Kr_10.out) few_c0 few_c0 (by decide +kernel)).mono ?_
  rintro e w11 ⟨rfl, b11⟩
  have Kp_11 := Lib.hid (Kp_10.out.below b11 Kp_10.out.lt)
  clear Kp_10
  have Kr_11 := Lib.hid (Kr_10.out.below b11 Kr_10.out.lt)
  clear Kr_10
  have KG_11 := Lib.hid (KG_10.out.below b11 KG_10.out.lt)
  clear KG_10
  have Ki_11 := Lib.hid (Ki_10.out.below b11 Ki_10.out.lt)
  clear Ki_10
  have Ko_11 := Lib.hid (Ko_10.out.below b11 Ko_10.out.lt)
  clear Ko_10
  have Kl_11 := Lib.hid (Kl_10.out.below b11 Kl_10.out.lt)
  clear Kl_10
  have Ke_11 := Lib.hid (Ke_10.out.below b11 Ke_10.out.lt)
  clear Ke_10
  have KC_11 := Lib.hid (KC_10.out.below b11 KC_10.out.lt)
  clear KC_10
  have KX_11 := Lib.hid (KX_10.out.below b11 KX_10.out.lt)
  clear KX_10
  have KE_11 := Lib.hid (KE_10.out.below b11 KE_10.out.lt)
  clear KE_10
  have Ko2_11 := Lib.hid (Ko2_10.out.below b11 Ko2_10.out.lt)
  clear Ko2_10
  have B_11 := Lib.hid (B_10.out.trans (b11.mono B_10.out.size))
  clear B_10
  clear b11
  have lC_11 : w.heap.size + 7 < w11.heap.size := KC_11.out.lt
  have cC_0_11 : w11.cell? ⟨w.heap.size + 7, 0, none⟩ = some (.slice (some ⟨w.heap.size + 3, 0, none⟩) 1 1) := KC_11.out.cell 0
  have cC_1_11 : w11.cell? ⟨w.heap.size + 7, 1, none⟩ = some (.slice (some ⟨w.heap.size + 4, 0, none⟩) 1 1) := KC_11.out.cell 1
  have cC_2_11 : w11.cell? ⟨w.heap.size + 7, 2, none⟩ = some (.slice (some ⟨w.heap.size + 5, 0, none⟩) 1 1) := KC_11.out.cell 2
  have cC_3_11 : w11.cell? ⟨w.heap.size + 7, 3, none⟩ = some (.slice (some ⟨w.heap.size + 6, 0, none⟩) 1 1) := KC_11.out.cell 3
  have lE_11 : w3.heap.size + 1 < w11.heap.size := KE_11.out.lt
  have cE_0_11 : w11.cell? ⟨w3.heap.size + 1, 0, none⟩ = some (.slice (some ⟨w.heap.size + 3, 0, none⟩) 1 1) := KE_11.out.cell 0
  have cE_1_11 : w11.cell? ⟨w3.heap.size + 1, 1, none⟩ = some (.slice (some ⟨w3.heap.size + 2, 0, none⟩) 2 2) := KE_11.out.cell 1
  have cE_2_11 : w11.cell? ⟨w3.heap.size + 1, 2, none⟩ = some (.slice (some ⟨w.heap.size + 5, 0, none⟩) 1 1) := KE_11.out.cell 2
  have cE_3_11 : w11.cell? ⟨w3.heap.size + 1, 3, none⟩ = some (.slice (some ⟨w.heap.size + 6, 0, none⟩) 1 1) := KE_11.out.cell 3
  go_wp2_with fail
  clear lC_11 cC_0_11 cC_1_11 cC_2_11 cC_3_11 lE_11 cE_0_11 cE_1_11 cE_2_11 cE_3_11
  refine (same_ex c0 d0 _ _ _ _ _ _ _ _ false _ (cir_blk (os := [⟨#[122]⟩]) Ki_11.out Ko_11.out rfl (by decide) (by decide) Kl_11.out Ke_11.out Kp_11.out Kr_11.out) (cir_blk (os := [⟨#[122]⟩, ⟨#[121]⟩]) Ki_11.out Ko2_11.out rfl (by decide) (by decide) Kl_11.out Ke_11.out Kp_11.out Kr_11.out) few_c0 few_d0 (by decide +kernel)).mono ?_
  rintro e w12 ⟨rfl, b12⟩
  have Kp_12 := Lib.hid (Kp_11.out.below b12 Kp_11.out.lt)
  clear Kp_11
  have Kr_12 := Lib.hid (Kr_11.out.below b12 Kr_11.out.lt)
  clear Kr_11
  have KG_12 := Lib.hid (KG_11.out.below b12 KG_11.out.lt)
  clear KG_11
  have Ki_12 := Lib.hid (Ki_11.out.below b12 Ki_11.out.lt)
  clear Ki_11
  have Ko_12 := Lib.hid (Ko_11.out.below b12 Ko_11.out.lt)
  clear Ko_11
  have Kl_12 := Lib.hid (Kl_11.out.below b12 Kl_11.out.lt)
  clear Kl_11
  have Ke_12 := Lib.hid (Ke_11.out.below b12 Ke_11.out.lt)
  clear Ke_11
  have KC_12 := Lib.hid (KC_11.out.below b12 KC_11.out.lt)
  clear KC_11
  have KX_12 := Lib.hid (KX_11.out.below b12 KX_11.out.lt)
  clear KX_11
  have KE_12 := Lib.hid (KE_11.out.below b12 KE_11.out.lt)
  clear KE_11
  have Ko2_12 := Lib.hid (Ko2_11.out.below b12 Ko2_11.out.lt)
  clear Ko2_11
  have B_12 := Lib.hid (B_11.out.trans (b12.mono B_11.out.size))
  clear B_11
  clear b12
  go_wp2
  go_ret
  exact ⟨rfl, B_12.out⟩
end Go.Proofs.YtfkmolbcgnkfdaaDoor
