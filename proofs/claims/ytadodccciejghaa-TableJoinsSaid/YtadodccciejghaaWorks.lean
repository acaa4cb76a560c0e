/- The document's example of tables. -/
import Derived.Test.YtadodccciejghaaTMap
import Derived.Test.YtadodccciejghaaTJoin
import Derived.Test.YtadodccciejghaaTInv
import Derived.Test.YtadodccciejghaaTAhead
import Derived.Test.YtadodccciejghaaSame
import Derived.Test.YtadodccciejghaaPlain3
import Derived.Deep.RegionHeld3
namespace Go.Proofs.Ytadodccciejghaa
open Go.RowKit
attribute [local go_sem] Oper.semAt_some
set_option maxRecDepth 100000
set_option maxHeartbeats 2000000

theorem three_blk {W : World} {B : Nat} {x y z : ByteArray} (h : Blk W B #[.string x, .string y, .string z] 9) : Lst stc W (.slice (some ⟨B, 0, none⟩) 3 3) [x, y, z] := Lst.blk (t := 9) h rfl
theorem two_blk {W : World} {B : Nat} {x y : ByteArray} (h : Blk W B #[.string x, .string y] 9) : Lst stc W (.slice (some ⟨B, 0, none⟩) 2 2) [x, y] := Lst.blk (t := 9) h rfl
theorem one_blk {W : World} {B : Nat} {x : ByteArray} (h : Blk W B #[.string x] 9) : Lst stc W (.slice (some ⟨B, 0, none⟩) 1 1) [x] := Lst.blk (t := 9) h rfl
theorem nilfine_some (a : Addr) (n c : Nat) : NilFine (.slice (some a) n c) := fun _ _ h => by cases h
theorem max60 {l : List ByteArray} (h : ∀ x ∈ l, x.size ≤ 60) : ∀ x ∈ l, x.size ≤ maxLen := fun x hx => by have := h x hx; unfold maxLen; omega
theorem of_ex (a b : List ByteArray) (v u : Value) (q : Int) (w : World) (hv : Lst stc w v a) (hu : Lst stc w u b) (hz : ∀ x ∈ a, x.size ≤ 60) (hz' : ∀ x ∈ b, x.size ≤ 60) (hn : NilFine v) (hn' : NilFine u) (hq : checkF a b = q) :
    Calls Try.prog 18 #[v, u] w fun e w' => ∃ V, e = .returned (.tuple #[V, .int .i64 q]) ∧ TabR w.heap.size w' V (okL q a) (okL q b) ∧ Below w.heap.size w w' := by
  subst hq
  exact tof_any a b v u w hv hu (max60 hz) (max60 hz') hn hn'
theorem ahead_ex (a b : List ByteArray) (v u : Value) (s r : ByteArray) (q : Bool) (w : World) (hv : Lst stc w v a) (hu : Lst stc w u b) (hz : ∀ x ∈ a, x.size ≤ 60) (hz' : ∀ x ∈ b, x.size ≤ 60) (hs : s.size ≤ 60) (hq : aheadF a b s = (r, q)) :
    Calls Try.prog 19 #[.agg #[v, u], .string s] w fun e w' => e = .returned (.tuple #[.string r, .bool q]) ∧ Below w.heap.size w w' := by
  have := tahead_any a b v u s w hv hu (max60 hz) (max60 hz') (by unfold maxLen; omega)
  rw [hq] at this
  exact this
theorem back_ex (a b : List ByteArray) (v u : Value) (s r : ByteArray) (q : Bool) (w : World) (hv : Lst stc w v a) (hu : Lst stc w u b) (hz : ∀ x ∈ a, x.size ≤ 60) (hz' : ∀ x ∈ b, x.size ≤ 60) (hs : s.size ≤ 60) (hq : aheadF b a s = (r, q)) :
    Calls Try.prog 21 #[.agg #[v, u], .string s] w fun e w' => e = .returned (.tuple #[.string r, .bool q]) ∧ Below w.heap.size w w' := by
  have := tback_any a b v u s w hv hu (max60 hz) (max60 hz') (by unfold maxLen; omega)
  rw [hq] at this
  exact this
theorem join_ex (a b c d : List ByteArray) (v u v' u' : Value) (p q : List ByteArray) (w : World) (hv : Lst stc w v a) (hu : Lst stc w u b) (hv' : Lst stc w v' c) (hu' : Lst stc w u' d)
    (hz : ∀ x ∈ a, x.size ≤ 60) (hz' : ∀ x ∈ b, x.size ≤ 60) (hz2 : ∀ x ∈ c, x.size ≤ 60) (hz3 : ∀ x ∈ d, x.size ≤ 60) (hp : (joinR a b c d).map (·.1) = p) (hq : (joinR a b c d).map (·.2) = q) :
    Calls Try.prog 28 #[.agg #[v, u], .agg #[v', u']] w fun e w' => ∃ V, e = .returned V ∧ TabR w.heap.size w' V p q ∧ Below w.heap.size w w' := by
  subst hp hq
  exact tjoin_any a b c d v u v' u' w hv hu hv' hu' (max60 hz) (max60 hz') (max60 hz2) (max60 hz3)
theorem map_ex (a b l : List ByteArray) (v u t : Value) (m : List ByteArray) (q : Int) (w : World) (hv : Lst stc w v a) (hu : Lst stc w u b) (ht : Lst stc w t l) (hz : ∀ x ∈ a, x.size ≤ 60) (hz' : ∀ x ∈ b, x.size ≤ 60) (hzl : ∀ x ∈ l, x.size ≤ 60) (hl : l.length ≤ 100000)
    (hm : mapR a b l = m) (hq : mapE a b l = q) :
    Calls Try.prog 30 #[.agg #[v, u], t] w fun e w' => ∃ V, e = .returned (.tuple #[V, .int .i64 q]) ∧ w'.ownsRow w.heap.size 9 1 V m.length (m.flatMap stc) ∧ Below w.heap.size w w' := by
  subst hm hq
  exact tmap_any a b l v u t w hv hu ht (max60 hz) (max60 hz') (max60 hzl) hl
theorem inv_ex (a b : List ByteArray) (v u : Value) (q : Int) (w : World) (hv : Lst stc w v a) (hu : Lst stc w u b) (hz : ∀ x ∈ a, x.size ≤ 60) (hz' : ∀ x ∈ b, x.size ≤ 60) (hn : NilFine v) (hn' : NilFine u) (hq : checkF b a = q) :
    Calls Try.prog 27 #[.agg #[v, u]] w fun e w' => ∃ V, e = .returned V ∧ TabR w.heap.size w' V (okL q b) (okL q a) ∧ Below w.heap.size w w' := by
  subst hq
  exact tinv_any a b v u w hv hu (max60 hz) (max60 hz') hn hn'
theorem same_ex (a b a' b' : List ByteArray) (v u v' u' : Value) (q : Bool) (w : World) (ha : a.length ≤ 100000) (hb : b.length ≤ 100000) (ha' : a'.length ≤ 100000) (hb' : b'.length ≤ 100000) (hv : Lst stc w v a) (hu : Lst stc w u b) (hv' : Lst stc w v' a') (hu' : Lst stc w u' b') (hq : (eqL stEq a a' && eqL stEq b b') = q) :
    Calls Try.prog 25 #[.agg #[v, u], .agg #[v', u']] w fun e w' => e = .returned (.bool q) ∧ Below w.heap.size w w' := by
  subst hq
  exact same_any a b a' b' v u v' u' w ha hb ha' hb' hv hu hv' hu'
theorem check_ex (a b : List ByteArray) (v u : Value) (q : Int) (w : World) (hv : Lst stc w v a) (hu : Lst stc w u b) (hz : ∀ x ∈ a, x.size ≤ 60) (hz' : ∀ x ∈ b, x.size ≤ 60) (hq : checkF a b = q) :
    Calls Try.prog 24 #[.agg #[v, u]] w fun e w' => e = .returned (.int .i64 q) ∧ Below w.heap.size w w' := by
  subst hq
  exact tcheck_any a b v u w hv hu (max60 hz) (max60 hz')
theorem row_cell {W : World} {B n j : Nat} {v : Value} {b : Option Addr} {c : Nat} {l : List ByteArray} {x : ByteArray} (h : W.ownsRow B 9 1 v n (l.flatMap stc)) (hv : v = .slice b n c) (hx : (l.flatMap stc)[j]? = some (.string x)) : ∃ g, b = some ⟨g, 0, none⟩ ∧ W.cell? ⟨g, j, none⟩ = some (.string x) := by
  subst hv
  have hl := h
  rcases h.2 with ⟨e, hn⟩ | ⟨g, cap, cur, e, _⟩
  · have h1 := h.1
    have h2 := (List.getElem?_eq_some_iff.1 hx).1
    rw [hn] at h1
    omega
  · cases e
    refine ⟨g, rfl, ?_⟩
    have := hl.cells (g := g) rfl j _ hx
    rwa [Addr.add_lit, Nat.zero_add] at this

theorem chain {a x y : World} (hb : Below x.heap.size x y) (h : Below a.heap.size a x) : Below a.heap.size a y := h.trans (hb.mono h.size)
theorem chain2 {a x y : World} (h : Below a.heap.size a x) (hb : Below x.heap.size x y) : Below a.heap.size a y := h.trans (hb.mono h.size)
theorem works_any (w : World) : Calls Try.prog 14 #[] w fun e w' => e = .returned (.bool true) ∧ Below w.heap.size w w' := by
  go_enter Try.func14, Try.ntmps14
  go_wp2_with fail
  have a1 : Below w.heap.size w ((w.alloc (.cells #[.string ⟨#[97]⟩, .string ⟨#[98]⟩] 9)).alloc (.cells #[.string ⟨#[120]⟩, .string ⟨#[121]⟩] 9)) := (((Below.refl w.heap.size w).alloc (by first | exact Nat.le_refl _ | (simp only [World.size_alloc]; omega)) (.cells #[.string ⟨#[97]⟩, .string ⟨#[98]⟩] 9)).alloc (by first | exact Nat.le_refl _ | (simp only [World.size_alloc]; omega)) (.cells #[.string ⟨#[120]⟩, .string ⟨#[121]⟩] 9))
  have p_new0 := ((Blk.new w #[.string ⟨#[97]⟩, .string ⟨#[98]⟩] 9).alloc (.cells #[.string ⟨#[120]⟩, .string ⟨#[121]⟩] 9))
  have Kp_00 := Lib.hid p_new0
  clear p_new0
  have q_new0 := (Blk.new (w.alloc (.cells #[.string ⟨#[97]⟩, .string ⟨#[98]⟩] 9)) #[.string ⟨#[120]⟩, .string ⟨#[121]⟩] 9)
  rw [World.size_alloc] at q_new0
  have Kq_00 := Lib.hid q_new0
  clear q_new0
  have B_1 := Lib.hid a1
  clear a1
  generalize ((w.alloc (.cells #[.string ⟨#[97]⟩, .string ⟨#[98]⟩] 9)).alloc (.cells #[.string ⟨#[120]⟩, .string ⟨#[121]⟩] 9)) = w1 at Kp_00 Kq_00 B_1 ⊢
  refine (of_ex [⟨#[97]⟩, ⟨#[98]⟩] [⟨#[120]⟩, ⟨#[121]⟩] _ _ 0 _ (two_blk Kp_00.out) (two_blk Kq_00.out) (by decide) (by decide) (nilfine_some _ _ _) (nilfine_some _ _ _) (by decide +kernel)).mono ?_
  rintro e w2 ⟨V, rfl, ht, b2⟩
  have Kp_2 := Lib.hid (Kp_00.out.below b2 Kp_00.out.lt)
  clear Kp_00
  have Kq_2 := Lib.hid (Kq_00.out.below b2 Kq_00.out.lt)
  clear Kq_00
  have B_2 := Lib.hid (B_1.out.trans (b2.mono B_1.out.size))
  clear B_1
  clear b2
  obtain ⟨tv, tu, rfl, tr, ts⟩ := ht
  change World.ownsRow _ _ 9 1 tv 2 _ at tr
  change World.ownsRow _ _ 9 1 tu 2 _ at ts
  obtain ⟨tvb, tvc, rfl⟩ := row_slice tr
  obtain ⟨tub, tuc, rfl⟩ := row_slice ts
  have tR := Lib.hid tr
  clear tr
  have tS := Lib.hid ts
  clear ts
  go_wp2_with fail
  have a2 : Below w2.heap.size w2 (w2.alloc (.cells #[.slice tvb 2 tvc, .slice tub 2 tuc] 24)) := ((Below.refl w2.heap.size w2).alloc (by first | exact Nat.le_refl _ | (simp only [World.size_alloc]; omega)) (.cells #[.slice tvb 2 tvc, .slice tub 2 tuc] 24))
  have T_new2 := (Blk.new w2 #[.slice tvb 2 tvc, .slice tub 2 tuc] 24)
  have KT_02 := Lib.hid T_new2
  clear T_new2
  have tR_3 := Lib.hid (row_below tR.out a2)
  clear tR
  have tS_3 := Lib.hid (row_below tS.out a2)
  clear tS
  have Kp_3 := Lib.hid (Kp_2.out.below a2 Kp_2.out.lt)
  clear Kp_2
  have Kq_3 := Lib.hid (Kq_2.out.below a2 Kq_2.out.lt)
  clear Kq_2
  have B_3 := Lib.hid (B_2.out.trans (a2.mono B_2.out.size))
  clear B_2
  clear a2
  generalize (w2.alloc (.cells #[.slice tvb 2 tvc, .slice tub 2 tuc] 24)) = w3 at tR_3 tS_3 Kp_3 Kq_3 KT_02 B_3 ⊢
  refine (ahead_ex [⟨#[97]⟩, ⟨#[98]⟩] [⟨#[120]⟩, ⟨#[121]⟩] _ _ ⟨#[97]⟩ ⟨#[120]⟩ true _ (Lst.of_row (ec := stc) (l := [⟨#[97]⟩, ⟨#[98]⟩]) tR_3.out) (Lst.of_row (ec := stc) (l := [⟨#[120]⟩, ⟨#[121]⟩]) tS_3.out) (by decide) (by decide) (by decide) (by decide +kernel)).mono ?_
  rintro e w4 ⟨rfl, b4⟩
  have tR_4 := Lib.hid (row_below tR_3.out b4)
  clear tR_3
  have tS_4 := Lib.hid (row_below tS_3.out b4)
  clear tS_3
  have Kp_4 := Lib.hid (Kp_3.out.below b4 Kp_3.out.lt)
  clear Kp_3
  have Kq_4 := Lib.hid (Kq_3.out.below b4 Kq_3.out.lt)
  clear Kq_3
  have KT_4 := Lib.hid (KT_02.out.below b4 KT_02.out.lt)
  clear KT_02
  have B_4 := Lib.hid (B_3.out.trans (b4.mono B_3.out.size))
  clear B_3
  clear b4
  have lT_4 : w2.heap.size < w4.heap.size := KT_4.out.lt
  have cT_0_4 : w4.cell? ⟨w2.heap.size, 0, none⟩ = some (.slice tvb 2 tvc) := KT_4.out.cell 0
  have cT_1_4 : w4.cell? ⟨w2.heap.size, 1, none⟩ = some (.slice tub 2 tuc) := KT_4.out.cell 1
  go_wp2_with fail
  clear lT_4 cT_0_4 cT_1_4
  refine (back_ex [⟨#[97]⟩, ⟨#[98]⟩] [⟨#[120]⟩, ⟨#[121]⟩] _ _ ⟨#[121]⟩ ⟨#[98]⟩ true _ (Lst.of_row (ec := stc) (l := [⟨#[97]⟩, ⟨#[98]⟩]) tR_4.out) (Lst.of_row (ec := stc) (l := [⟨#[120]⟩, ⟨#[121]⟩]) tS_4.out) (by decide) (by decide) (by decide) (by decide +kernel)).mono ?_
  rintro e w5 ⟨rfl, b5⟩
  have tR_5 := Lib.hid (row_below tR_4.out b5)
  clear tR_4
  have tS_5 := Lib.hid (row_below tS_4.out b5)
  clear tS_4
  have Kp_5 := Lib.hid (Kp_4.out.below b5 Kp_4.out.lt)
  clear Kp_4
  have Kq_5 := Lib.hid (Kq_4.out.below b5 Kq_4.out.lt)
  clear Kq_4
  have KT_5 := Lib.hid (KT_4.out.below b5 KT_4.out.lt)
  clear KT_4
  have B_5 := Lib.hid (B_4.out.trans (b5.mono B_4.out.size))
  clear B_4
  clear b5
  have lT_5 : w2.heap.size < w5.heap.size := KT_5.out.lt
  have cT_0_5 : w5.cell? ⟨w2.heap.size, 0, none⟩ = some (.slice tvb 2 tvc) := KT_5.out.cell 0
  have cT_1_5 : w5.cell? ⟨w2.heap.size, 1, none⟩ = some (.slice tub 2 tuc) := KT_5.out.cell 1
  go_wp2_with fail
  clear lT_5 cT_0_5 cT_1_5
  refine (ahead_ex [⟨#[97]⟩, ⟨#[98]⟩] [⟨#[120]⟩, ⟨#[121]⟩] _ _ ⟨#[120]⟩ ⟨#[]⟩ false _ (Lst.of_row (ec := stc) (l := [⟨#[97]⟩, ⟨#[98]⟩]) tR_5.out) (Lst.of_row (ec := stc) (l := [⟨#[120]⟩, ⟨#[121]⟩]) tS_5.out) (by decide) (by decide) (by decide) (by decide +kernel)).mono ?_
  rintro e w6 ⟨rfl, b6⟩
  have tR_6 := Lib.hid (row_below tR_5.out b6)
  clear tR_5
  have tS_6 := Lib.hid (row_below tS_5.out b6)
  clear tS_5
  have Kp_6 := Lib.hid (Kp_5.out.below b6 Kp_5.out.lt)
  clear Kp_5
  have Kq_6 := Lib.hid (Kq_5.out.below b6 Kq_5.out.lt)
  clear Kq_5
  have KT_6 := Lib.hid (KT_5.out.below b6 KT_5.out.lt)
  clear KT_5
  have B_6 := Lib.hid (B_5.out.trans (b6.mono B_5.out.size))
  clear B_5
  clear b6
  go_wp2_with fail
  have a3 : Below w6.heap.size w6 ((w6.alloc (.cells #[.string ⟨#[121]⟩] 9)).alloc (.cells #[.string ⟨#[122]⟩] 9)) := (((Below.refl w6.heap.size w6).alloc (by first | exact Nat.le_refl _ | (simp only [World.size_alloc]; omega)) (.cells #[.string ⟨#[121]⟩] 9)).alloc (by first | exact Nat.le_refl _ | (simp only [World.size_alloc]; omega)) (.cells #[.string ⟨#[122]⟩] 9))
  have p_new6 := ((Blk.new w6 #[.string ⟨#[121]⟩] 9).alloc (.cells #[.string ⟨#[122]⟩] 9))
  have Kp_06 := Lib.hid p_new6
  clear p_new6
  have q_new6 := (Blk.new (w6.alloc (.cells #[.string ⟨#[121]⟩] 9)) #[.string ⟨#[122]⟩] 9)
  rw [World.size_alloc] at q_new6
  have Kq_06 := Lib.hid q_new6
  clear q_new6
  have tR_7 := Lib.hid (row_below tR_6.out a3)
  clear tR_6
  have tS_7 := Lib.hid (row_below tS_6.out a3)
  clear tS_6
  have Kp_7 := Lib.hid (Kp_6.out.below a3 Kp_6.out.lt)
  clear Kp_6
  have Kq_7 := Lib.hid (Kq_6.out.below a3 Kq_6.out.lt)
  clear Kq_6
  have KT_7 := Lib.hid (KT_6.out.below a3 KT_6.out.lt)
  clear KT_6
  have B_7 := Lib.hid (B_6.out.trans (a3.mono B_6.out.size))
  clear B_6
  clear a3
  generalize ((w6.alloc (.cells #[.string ⟨#[121]⟩] 9)).alloc (.cells #[.string ⟨#[122]⟩] 9)) = w7 at tR_7 tS_7 Kp_06 Kq_06 KT_7 B_7 ⊢
  refine (of_ex [⟨#[121]⟩] [⟨#[122]⟩] _ _ 0 _ (one_blk Kp_06.out) (one_blk Kq_06.out) (by decide) (by decide) (nilfine_some _ _ _) (nilfine_some _ _ _) (by decide +kernel)).mono ?_
  rintro e w8 ⟨V, rfl, ht, b8⟩
  have tR_8 := Lib.hid (row_below tR_7.out b8)
  clear tR_7
  have tS_8 := Lib.hid (row_below tS_7.out b8)
  clear tS_7
  have Kp_8 := Lib.hid (Kp_06.out.below b8 Kp_06.out.lt)
  clear Kp_06
  have Kq_8 := Lib.hid (Kq_06.out.below b8 Kq_06.out.lt)
  clear Kq_06
  have KT_8 := Lib.hid (KT_7.out.below b8 KT_7.out.lt)
  clear KT_7
  have B_8 := Lib.hid (B_7.out.trans (b8.mono B_7.out.size))
  clear B_7
  clear b8
  obtain ⟨uv, uu, rfl, ur, us⟩ := ht
  change World.ownsRow _ _ 9 1 uv 1 _ at ur
  change World.ownsRow _ _ 9 1 uu 1 _ at us
  obtain ⟨uvb, uvc, rfl⟩ := row_slice ur
  obtain ⟨uub, uuc, rfl⟩ := row_slice us
  have uR := Lib.hid ur
  clear ur
  have uS := Lib.hid us
  clear us
  have lT_8 : w2.heap.size < w8.heap.size := KT_8.out.lt
  have cT_0_8 : w8.cell? ⟨w2.heap.size, 0, none⟩ = some (.slice tvb 2 tvc) := KT_8.out.cell 0
  have cT_1_8 : w8.cell? ⟨w2.heap.size, 1, none⟩ = some (.slice tub 2 tuc) := KT_8.out.cell 1
  go_wp2_with fail
  clear lT_8 cT_0_8 cT_1_8
  have a4 : Below w8.heap.size w8 (w8.alloc (.cells #[.slice uvb 1 uvc, .slice uub 1 uuc] 24)) := ((Below.refl w8.heap.size w8).alloc (by first | exact Nat.le_refl _ | (simp only [World.size_alloc]; omega)) (.cells #[.slice uvb 1 uvc, .slice uub 1 uuc] 24))
  have U_new8 := (Blk.new w8 #[.slice uvb 1 uvc, .slice uub 1 uuc] 24)
  have KU_08 := Lib.hid U_new8
  clear U_new8
  have tR_9 := Lib.hid (row_below tR_8.out a4)
  clear tR_8
  have tS_9 := Lib.hid (row_below tS_8.out a4)
  clear tS_8
  have uR_9 := Lib.hid (row_below uR.out a4)
  clear uR
  have uS_9 := Lib.hid (row_below uS.out a4)
  clear uS
  have Kp_9 := Lib.hid (Kp_8.out.below a4 Kp_8.out.lt)
  clear Kp_8
  have Kq_9 := Lib.hid (Kq_8.out.below a4 Kq_8.out.lt)
  clear Kq_8
  have KT_9 := Lib.hid (KT_8.out.below a4 KT_8.out.lt)
  clear KT_8
  have B_9 := Lib.hid (B_8.out.trans (a4.mono B_8.out.size))
  clear B_8
  clear a4
  generalize (w8.alloc (.cells #[.slice uvb 1 uvc, .slice uub 1 uuc] 24)) = w9 at tR_9 tS_9 uR_9 uS_9 Kp_9 Kq_9 KT_9 KU_08 B_9 ⊢
  refine (join_ex [⟨#[97]⟩, ⟨#[98]⟩] [⟨#[120]⟩, ⟨#[121]⟩] [⟨#[121]⟩] [⟨#[122]⟩] _ _ _ _ [⟨#[98]⟩] [⟨#[122]⟩] _ (Lst.of_row (ec := stc) (l := [⟨#[97]⟩, ⟨#[98]⟩]) tR_9.out) (Lst.of_row (ec := stc) (l := [⟨#[120]⟩, ⟨#[121]⟩]) tS_9.out) (Lst.of_row (ec := stc) (l := [⟨#[121]⟩]) uR_9.out) (Lst.of_row (ec := stc) (l := [⟨#[122]⟩]) uS_9.out) (by decide) (by decide) (by decide) (by decide) (by decide +kernel) (by decide +kernel)).mono ?_
  rintro e w10 ⟨V, rfl, ht, b10⟩
  have tR_10 := Lib.hid (row_below tR_9.out b10)
  clear tR_9
  have tS_10 := Lib.hid (row_below tS_9.out b10)
  clear tS_9
  have uR_10 := Lib.hid (row_below uR_9.out b10)
  clear uR_9
  have uS_10 := Lib.hid (row_below uS_9.out b10)
  clear uS_9
  have Kp_10 := Lib.hid (Kp_9.out.below b10 Kp_9.out.lt)
  clear Kp_9
  have Kq_10 := Lib.hid (Kq_9.out.below b10 Kq_9.out.lt)
  clear Kq_9
  have KT_10 := Lib.hid (KT_9.out.below b10 KT_9.out.lt)
  clear KT_9
  have KU_10 := Lib.hid (KU_08.out.below b10 KU_08.out.lt)
  clear KU_08
  have B_10 := Lib.hid (B_9.out.trans (b10.mono B_9.out.size))
  clear B_9
  clear b10
  obtain ⟨jv, ju, rfl, jr, js⟩ := ht
  change World.ownsRow _ _ 9 1 jv 1 _ at jr
  change World.ownsRow _ _ 9 1 ju 1 _ at js
  obtain ⟨jvb, jvc, rfl⟩ := row_slice jr
  obtain ⟨jub, juc, rfl⟩ := row_slice js
  have jR := Lib.hid jr
  clear jr
  have jS := Lib.hid js
  clear js
  have lT_10 : w2.heap.size < w10.heap.size := KT_10.out.lt
  have cT_0_10 : w10.cell? ⟨w2.heap.size, 0, none⟩ = some (.slice tvb 2 tvc) := KT_10.out.cell 0
  have cT_1_10 : w10.cell? ⟨w2.heap.size, 1, none⟩ = some (.slice tub 2 tuc) := KT_10.out.cell 1
  go_wp2_with fail
  clear lT_10 cT_0_10 cT_1_10
  have a5 : Below w10.heap.size w10 ((w10.alloc (.cells #[.slice jvb 1 jvc, .slice jub 1 juc] 24)).alloc (.cells #[.string ⟨#[98]⟩, .string ⟨#[97]⟩, .string ⟨#[98]⟩] 9)) := (((Below.refl w10.heap.size w10).alloc (by first | exact Nat.le_refl _ | (simp only [World.size_alloc]; omega)) (.cells #[.slice jvb 1 jvc, .slice jub 1 juc] 24)).alloc (by first | exact Nat.le_refl _ | (simp only [World.size_alloc]; omega)) (.cells #[.string ⟨#[98]⟩, .string ⟨#[97]⟩, .string ⟨#[98]⟩] 9))
  have J_new10 := ((Blk.new w10 #[.slice jvb 1 jvc, .slice jub 1 juc] 24).alloc (.cells #[.string ⟨#[98]⟩, .string ⟨#[97]⟩, .string ⟨#[98]⟩] 9))
  have KJ_010 := Lib.hid J_new10
  clear J_new10
  have p_new10 := (Blk.new (w10.alloc (.cells #[.slice jvb 1 jvc, .slice jub 1 juc] 24)) #[.string ⟨#[98]⟩, .string ⟨#[97]⟩, .string ⟨#[98]⟩] 9)
  rw [World.size_alloc] at p_new10
  have Kp_010 := Lib.hid p_new10
  clear p_new10
  have tR_11 := Lib.hid (row_below tR_10.out a5)
  clear tR_10
  have tS_11 := Lib.hid (row_below tS_10.out a5)
  clear tS_10
  have uR_11 := Lib.hid (row_below uR_10.out a5)
  clear uR_10
  have uS_11 := Lib.hid (row_below uS_10.out a5)
  clear uS_10
  have jR_11 := Lib.hid (row_below jR.out a5)
  clear jR
  have jS_11 := Lib.hid (row_below jS.out a5)
  clear jS
  have Kp_11 := Lib.hid (Kp_10.out.below a5 Kp_10.out.lt)
  clear Kp_10
  have Kq_11 := Lib.hid (Kq_10.out.below a5 Kq_10.out.lt)
  clear Kq_10
  have KT_11 := Lib.hid (KT_10.out.below a5 KT_10.out.lt)
  clear KT_10
  have KU_11 := Lib.hid (KU_10.out.below a5 KU_10.out.lt)
  clear KU_10
  have B_11 := Lib.hid (B_10.out.trans (a5.mono B_10.out.size))
  clear B_10
  clear a5
  generalize ((w10.alloc (.cells #[.slice jvb 1 jvc, .slice jub 1 juc] 24)).alloc (.cells #[.string ⟨#[98]⟩, .string ⟨#[97]⟩, .string ⟨#[98]⟩] 9)) = w11 at tR_11 tS_11 uR_11 uS_11 jR_11 jS_11 Kp_010 Kq_11 KT_11 KU_11 KJ_010 B_11 ⊢
  refine (map_ex [⟨#[97]⟩, ⟨#[98]⟩] [⟨#[120]⟩, ⟨#[121]⟩] [⟨#[98]⟩, ⟨#[97]⟩, ⟨#[98]⟩] _ _ _ [⟨#[121]⟩, ⟨#[120]⟩, ⟨#[121]⟩] 0 _ (Lst.of_row (ec := stc) (l := [⟨#[97]⟩, ⟨#[98]⟩]) tR_11.out) (Lst.of_row (ec := stc) (l := [⟨#[120]⟩, ⟨#[121]⟩]) tS_11.out) (three_blk Kp_010.out) (by decide) (by decide) (by decide) (by decide) (by decide +kernel) (by decide +kernel)).mono ?_
  rintro e w12 ⟨V, rfl, mr, b12⟩
  have tR_12 := Lib.hid (row_below tR_11.out b12)
  clear tR_11
  have tS_12 := Lib.hid (row_below tS_11.out b12)
  clear tS_11
  have uR_12 := Lib.hid (row_below uR_11.out b12)
  clear uR_11
  have uS_12 := Lib.hid (row_below uS_11.out b12)
  clear uS_11
  have jR_12 := Lib.hid (row_below jR_11.out b12)
  clear jR_11
  have jS_12 := Lib.hid (row_below jS_11.out b12)
  clear jS_11
  have Kp_12 := Lib.hid (Kp_010.out.below b12 Kp_010.out.lt)
  clear Kp_010
  have Kq_12 := Lib.hid (Kq_11.out.below b12 Kq_11.out.lt)
  clear Kq_11
  have KT_12 := Lib.hid (KT_11.out.below b12 KT_11.out.lt)
  clear KT_11
  have KU_12 := Lib.hid (KU_11.out.below b12 KU_11.out.lt)
  clear KU_11
  have KJ_12 := Lib.hid (KJ_010.out.below b12 KJ_010.out.lt)
  clear KJ_010
  have B_12 := Lib.hid (B_11.out.trans (b12.mono B_11.out.size))
  clear B_11
  clear b12
  change World.ownsRow _ _ 9 1 V 3 _ at mr
  obtain ⟨mb, mc, rfl⟩ := row_slice mr
  have M := Lib.hid mr
  clear mr
  have lT_12 : w2.heap.size < w12.heap.size := KT_12.out.lt
  have cT_0_12 : w12.cell? ⟨w2.heap.size, 0, none⟩ = some (.slice tvb 2 tvc) := KT_12.out.cell 0
  have cT_1_12 : w12.cell? ⟨w2.heap.size, 1, none⟩ = some (.slice tub 2 tuc) := KT_12.out.cell 1
  go_wp2_with fail
  clear lT_12 cT_0_12 cT_1_12
  have a6 : Below w12.heap.size w12 (w12.alloc (.cells #[.string ⟨#[99]⟩] 9)) := ((Below.refl w12.heap.size w12).alloc (by first | exact Nat.le_refl _ | (simp only [World.size_alloc]; omega)) (.cells #[.string ⟨#[99]⟩] 9))
  have p_new12 := (Blk.new w12 #[.string ⟨#[99]⟩] 9)
  have Kp_012 := Lib.hid p_new12
  clear p_new12
  have tR_13 := Lib.hid (row_below tR_12.out a6)
  clear tR_12
  have tS_13 := Lib.hid (row_below tS_12.out a6)
  clear tS_12
  have uR_13 := Lib.hid (row_below uR_12.out a6)
  clear uR_12
  have uS_13 := Lib.hid (row_below uS_12.out a6)
  clear uS_12
  have jR_13 := Lib.hid (row_below jR_12.out a6)
  clear jR_12
  have jS_13 := Lib.hid (row_below jS_12.out a6)
  clear jS_12
  have M_13 := Lib.hid (row_below M.out a6)
  clear M
  have Kp_13 := Lib.hid (Kp_12.out.below a6 Kp_12.out.lt)
  clear Kp_12
  have Kq_13 := Lib.hid (Kq_12.out.below a6 Kq_12.out.lt)
  clear Kq_12
  have KT_13 := Lib.hid (KT_12.out.below a6 KT_12.out.lt)
  clear KT_12
  have KU_13 := Lib.hid (KU_12.out.below a6 KU_12.out.lt)
  clear KU_12
  have KJ_13 := Lib.hid (KJ_12.out.below a6 KJ_12.out.lt)
  clear KJ_12
  have B_13 := Lib.hid (B_12.out.trans (a6.mono B_12.out.size))
  clear B_12
  clear a6
  generalize (w12.alloc (.cells #[.string ⟨#[99]⟩] 9)) = w13 at tR_13 tS_13 uR_13 uS_13 jR_13 jS_13 M_13 Kp_012 Kq_13 KT_13 KU_13 KJ_13 B_13 ⊢
  refine (map_ex [⟨#[97]⟩, ⟨#[98]⟩] [⟨#[120]⟩, ⟨#[121]⟩] [⟨#[99]⟩] _ _ _ [] 12 _ (Lst.of_row (ec := stc) (l := [⟨#[97]⟩, ⟨#[98]⟩]) tR_13.out) (Lst.of_row (ec := stc) (l := [⟨#[120]⟩, ⟨#[121]⟩]) tS_13.out) (one_blk Kp_012.out) (by decide) (by decide) (by decide) (by decide) (by decide +kernel) (by decide +kernel)).mono ?_
  rintro e w14 ⟨V2, rfl, _, b14⟩
  have tR_14 := Lib.hid (row_below tR_13.out b14)
  clear tR_13
  have tS_14 := Lib.hid (row_below tS_13.out b14)
  clear tS_13
  have uR_14 := Lib.hid (row_below uR_13.out b14)
  clear uR_13
  have uS_14 := Lib.hid (row_below uS_13.out b14)
  clear uS_13
  have jR_14 := Lib.hid (row_below jR_13.out b14)
  clear jR_13
  have jS_14 := Lib.hid (row_below jS_13.out b14)
  clear jS_13
  have M_14 := Lib.hid (row_below M_13.out b14)
  clear M_13
  have Kp_14 := Lib.hid (Kp_012.out.below b14 Kp_012.out.lt)
  clear Kp_012
  have Kq_14 := Lib.hid (Kq_13.out.below b14 Kq_13.out.lt)
  clear Kq_13
  have KT_14 := Lib.hid (KT_13.out.below b14 KT_13.out.lt)
  clear KT_13
  have KU_14 := Lib.hid (KU_13.out.below b14 KU_13.out.lt)
  clear KU_13
  have KJ_14 := Lib.hid (KJ_13.out.below b14 KJ_13.out.lt)
  clear KJ_13
  have B_14 := Lib.hid (B_13.out.trans (b14.mono B_13.out.size))
  clear B_13
  clear b14
  go_wp2_with fail
  have a7 : Below w14.heap.size w14 ((w14.alloc (.cells #[.string ⟨#[97]⟩, .string ⟨#[97]⟩] 9)).alloc (.cells #[.string ⟨#[120]⟩, .string ⟨#[121]⟩] 9)) := (((Below.refl w14.heap.size w14).alloc (by first | exact Nat.le_refl _ | (simp only [World.size_alloc]; omega)) (.cells #[.string ⟨#[97]⟩, .string ⟨#[97]⟩] 9)).alloc (by first | exact Nat.le_refl _ | (simp only [World.size_alloc]; omega)) (.cells #[.string ⟨#[120]⟩, .string ⟨#[121]⟩] 9))
  have p_new14 := ((Blk.new w14 #[.string ⟨#[97]⟩, .string ⟨#[97]⟩] 9).alloc (.cells #[.string ⟨#[120]⟩, .string ⟨#[121]⟩] 9))
  have Kp_014 := Lib.hid p_new14
  clear p_new14
  have q_new14 := (Blk.new (w14.alloc (.cells #[.string ⟨#[97]⟩, .string ⟨#[97]⟩] 9)) #[.string ⟨#[120]⟩, .string ⟨#[121]⟩] 9)
  rw [World.size_alloc] at q_new14
  have Kq_014 := Lib.hid q_new14
  clear q_new14
  have tR_15 := Lib.hid (row_below tR_14.out a7)
  clear tR_14
  have tS_15 := Lib.hid (row_below tS_14.out a7)
  clear tS_14
  have uR_15 := Lib.hid (row_below uR_14.out a7)
  clear uR_14
  have uS_15 := Lib.hid (row_below uS_14.out a7)
  clear uS_14
  have jR_15 := Lib.hid (row_below jR_14.out a7)
  clear jR_14
  have jS_15 := Lib.hid (row_below jS_14.out a7)
  clear jS_14
  have M_15 := Lib.hid (row_below M_14.out a7)
  clear M_14
  have Kp_15 := Lib.hid (Kp_14.out.below a7 Kp_14.out.lt)
  clear Kp_14
  have Kq_15 := Lib.hid (Kq_14.out.below a7 Kq_14.out.lt)
  clear Kq_14
  have KT_15 := Lib.hid (KT_14.out.below a7 KT_14.out.lt)
  clear KT_14
  have KU_15 := Lib.hid (KU_14.out.below a7 KU_14.out.lt)
  clear KU_14
  have KJ_15 := Lib.hid (KJ_14.out.below a7 KJ_14.out.lt)
  clear KJ_14
  have B_15 := Lib.hid (B_14.out.trans (a7.mono B_14.out.size))
  clear B_14
  clear a7
  generalize ((w14.alloc (.cells #[.string ⟨#[97]⟩, .string ⟨#[97]⟩] 9)).alloc (.cells #[.string ⟨#[120]⟩, .string ⟨#[121]⟩] 9)) = w15 at tR_15 tS_15 uR_15 uS_15 jR_15 jS_15 M_15 Kp_014 Kq_014 KT_15 KU_15 KJ_15 B_15 ⊢
  refine (of_ex [⟨#[97]⟩, ⟨#[97]⟩] [⟨#[120]⟩, ⟨#[121]⟩] _ _ 5 _ (two_blk Kp_014.out) (two_blk Kq_014.out) (by decide) (by decide) (nilfine_some _ _ _) (nilfine_some _ _ _) (by decide +kernel)).mono ?_
  rintro e w16 ⟨V3, rfl, ⟨i1, i2, rfl, s1, s2⟩, b16⟩
  have tR_16 := Lib.hid (row_below tR_15.out b16)
  clear tR_15
  have tS_16 := Lib.hid (row_below tS_15.out b16)
  clear tS_15
  have uR_16 := Lib.hid (row_below uR_15.out b16)
  clear uR_15
  have uS_16 := Lib.hid (row_below uS_15.out b16)
  clear uS_15
  have jR_16 := Lib.hid (row_below jR_15.out b16)
  clear jR_15
  have jS_16 := Lib.hid (row_below jS_15.out b16)
  clear jS_15
  have M_16 := Lib.hid (row_below M_15.out b16)
  clear M_15
  have Kp_16 := Lib.hid (Kp_014.out.below b16 Kp_014.out.lt)
  clear Kp_014
  have Kq_16 := Lib.hid (Kq_014.out.below b16 Kq_014.out.lt)
  clear Kq_014
  have KT_16 := Lib.hid (KT_15.out.below b16 KT_15.out.lt)
  clear KT_15
  have KU_16 := Lib.hid (KU_15.out.below b16 KU_15.out.lt)
  clear KU_15
  have KJ_16 := Lib.hid (KJ_15.out.below b16 KJ_15.out.lt)
  clear KJ_15
  have B_16 := Lib.hid (B_15.out.trans (b16.mono B_15.out.size))
  clear B_15
  clear b16
  obtain ⟨i1b, i1c, rfl⟩ := row_slice s1
  obtain ⟨i2b, i2c, rfl⟩ := row_slice s2
  clear s1 s2
  generalize (okL 5 _).length = n1
  generalize (okL 5 _).length = n2
  go_wp2_with fail
  have a8 : Below w16.heap.size w16 (w16.alloc (.cells #[.slice i1b n1 i1c, .slice i2b n2 i2c] 24)) := ((Below.refl w16.heap.size w16).alloc (by first | exact Nat.le_refl _ | (simp only [World.size_alloc]; omega)) (.cells #[.slice i1b n1 i1c, .slice i2b n2 i2c] 24))
  have I_new16 := (Blk.new w16 #[.slice i1b n1 i1c, .slice i2b n2 i2c] 24)
  have KI_016 := Lib.hid I_new16
  clear I_new16
  have tR_17 := Lib.hid (row_below tR_16.out a8)
  clear tR_16
  have tS_17 := Lib.hid (row_below tS_16.out a8)
  clear tS_16
  have uR_17 := Lib.hid (row_below uR_16.out a8)
  clear uR_16
  have uS_17 := Lib.hid (row_below uS_16.out a8)
  clear uS_16
  have jR_17 := Lib.hid (row_below jR_16.out a8)
  clear jR_16
  have jS_17 := Lib.hid (row_below jS_16.out a8)
  clear jS_16
  have M_17 := Lib.hid (row_below M_16.out a8)
  clear M_16
  have Kp_17 := Lib.hid (Kp_16.out.below a8 Kp_16.out.lt)
  clear Kp_16
  have Kq_17 := Lib.hid (Kq_16.out.below a8 Kq_16.out.lt)
  clear Kq_16
  have KT_17 := Lib.hid (KT_16.out.below a8 KT_16.out.lt)
  clear KT_16
  have KU_17 := Lib.hid (KU_16.out.below a8 KU_16.out.lt)
  clear KU_16
  have KJ_17 := Lib.hid (KJ_16.out.below a8 KJ_16.out.lt)
  clear KJ_16
  have B_17 := Lib.hid (B_16.out.trans (a8.mono B_16.out.size))
  clear B_16
  clear a8
  generalize (w16.alloc (.cells #[.slice i1b n1 i1c, .slice i2b n2 i2c] 24)) = w17 at tR_17 tS_17 uR_17 uS_17 jR_17 jS_17 M_17 Kp_17 Kq_17 KT_17 KU_17 KJ_17 KI_016 B_17 ⊢
  have lT_17 : w2.heap.size < w17.heap.size := KT_17.out.lt
  have cT_0_17 : w17.cell? ⟨w2.heap.size, 0, none⟩ = some (.slice tvb 2 tvc) := KT_17.out.cell 0
  have cT_1_17 : w17.cell? ⟨w2.heap.size, 1, none⟩ = some (.slice tub 2 tuc) := KT_17.out.cell 1
  have lU_17 : w8.heap.size < w17.heap.size := KU_17.out.lt
  have cU_0_17 : w17.cell? ⟨w8.heap.size, 0, none⟩ = some (.slice uvb 1 uvc) := KU_17.out.cell 0
  have cU_1_17 : w17.cell? ⟨w8.heap.size, 1, none⟩ = some (.slice uub 1 uuc) := KU_17.out.cell 1
  have lJ_17 : w10.heap.size < w17.heap.size := KJ_17.out.lt
  have cJ_0_17 : w17.cell? ⟨w10.heap.size, 0, none⟩ = some (.slice jvb 1 jvc) := KJ_17.out.cell 0
  have cJ_1_17 : w17.cell? ⟨w10.heap.size, 1, none⟩ = some (.slice jub 1 juc) := KJ_17.out.cell 1
  have hd : Below w17.heap.size w17 w17.drew := (Below.refl _ _).drew
  obtain ⟨jg, ej, cj1⟩ := row_cell (j := 0) (l := [⟨#[98]⟩]) (x := ⟨#[98]⟩) jR_17.out rfl rfl
  obtain ⟨jh, ek, cj2⟩ := row_cell (j := 0) (l := [⟨#[122]⟩]) (x := ⟨#[122]⟩) jS_17.out rfl rfl
  obtain ⟨mg, em, cm⟩ := row_cell (j := 2) (l := [⟨#[121]⟩, ⟨#[120]⟩, ⟨#[121]⟩]) (x := ⟨#[121]⟩) M_17.out rfl rfl
  subst ej ek em
  have lj1 : jg < w17.heap.size := (jR_17.out.lt jg rfl).2
  have lj2 : jh < w17.heap.size := (jS_17.out.lt jh rfl).2
  have lm : mg < w17.heap.size := (M_17.out.lt mg rfl).2
  have HS : Hid (∀ X : World, Below w17.heap.size w17 X → X.cell? ⟨w2.heap.size, 0, none⟩ = some (.slice tvb 2 tvc) ∧ X.cell? ⟨w2.heap.size, 1, none⟩ = some (.slice tub 2 tuc) ∧ X.cell? ⟨w8.heap.size, 0, none⟩ = some (.slice uvb 1 uvc) ∧ X.cell? ⟨w8.heap.size, 1, none⟩ = some (.slice uub 1 uuc) ∧ X.cell? ⟨w10.heap.size, 0, none⟩ = some (.slice (some ⟨jg, 0, none⟩) 1 jvc) ∧ X.cell? ⟨w10.heap.size, 1, none⟩ = some (.slice (some ⟨jh, 0, none⟩) 1 juc) ∧ X.cell? ⟨jg, 0, none⟩ = some (.string ⟨#[98]⟩) ∧ X.cell? ⟨jh, 0, none⟩ = some (.string ⟨#[122]⟩) ∧ X.cell? ⟨mg, 2, none⟩ = some (.string ⟨#[121]⟩)) := Lib.hid fun X h => ⟨(h.cell (p := ⟨w2.heap.size, 0, none⟩) KT_17.out.lt).trans (KT_17.out.cell 0), (h.cell (p := ⟨w2.heap.size, 1, none⟩) KT_17.out.lt).trans (KT_17.out.cell 1), (h.cell (p := ⟨w8.heap.size, 0, none⟩) KU_17.out.lt).trans (KU_17.out.cell 0), (h.cell (p := ⟨w8.heap.size, 1, none⟩) KU_17.out.lt).trans (KU_17.out.cell 1), (h.cell (p := ⟨w10.heap.size, 0, none⟩) KJ_17.out.lt).trans (KJ_17.out.cell 0), (h.cell (p := ⟨w10.heap.size, 1, none⟩) KJ_17.out.lt).trans (KJ_17.out.cell 1), (h.cell (p := ⟨jg, 0, none⟩) lj1).trans cj1, (h.cell (p := ⟨jh, 0, none⟩) lj2).trans cj2, (h.cell (p := ⟨mg, 2, none⟩) lm).trans cm⟩
  clear lT_17 cT_0_17 cT_1_17 lU_17 cU_0_17 cU_1_17 lJ_17 cJ_0_17 cJ_1_17 cj1 cj2 cm lj1 lj2 lm
  obtain ⟨x0, x1, x2, x3, x4, x5, x6, x7, x8⟩ := HS.out _ hd
  simp only [List.append]
  go_region_held3 (fun X => X.cell? ⟨w2.heap.size, 0, none⟩ = some (.slice tvb 2 tvc) ∧ X.cell? ⟨w2.heap.size, 1, none⟩ = some (.slice tub 2 tuc) ∧ X.cell? ⟨w8.heap.size, 0, none⟩ = some (.slice uvb 1 uvc) ∧ X.cell? ⟨w8.heap.size, 1, none⟩ = some (.slice uub 1 uuc) ∧ X.cell? ⟨w10.heap.size, 0, none⟩ = some (.slice (some ⟨jg, 0, none⟩) 1 jvc) ∧ X.cell? ⟨w10.heap.size, 1, none⟩ = some (.slice (some ⟨jh, 0, none⟩) 1 juc) ∧ X.cell? ⟨jg, 0, none⟩ = some (.string ⟨#[98]⟩) ∧ X.cell? ⟨jh, 0, none⟩ = some (.string ⟨#[122]⟩) ∧ X.cell? ⟨mg, 2, none⟩ = some (.string ⟨#[121]⟩) ∧ Below w17.heap.size w17 X) (go_keep)
    (first | (go_at_call 27; (with_reducible refine (inv_ex [⟨#[97]⟩, ⟨#[98]⟩] [⟨#[120]⟩, ⟨#[121]⟩] _ _ 0 _ (Lst.of_row (ec := stc) (l := [⟨#[97]⟩, ⟨#[98]⟩]) (row_below tR_17.out (by assumption))) (Lst.of_row (ec := stc) (l := [⟨#[120]⟩, ⟨#[121]⟩]) (row_below tS_17.out (by assumption))) (by decide) (by decide) (nilFine_row tR_17.out) (nilFine_row tS_17.out) (by decide +kernel)).mono ?_); rintro e w' ⟨V, rfl, ⟨g1, g2, rfl, q1, q2⟩, hb⟩; have rB := chain (a := w17) hb (by assumption); obtain ⟨x0, x1, x2, x3, x4, x5, x6, x7, x8⟩ := HS.out _ rB) | (go_at_call 27; (with_reducible refine (inv_ex [⟨#[120]⟩, ⟨#[121]⟩] [⟨#[97]⟩, ⟨#[98]⟩] _ _ 0 _ (Lst.of_row q1) (Lst.of_row q2) (by decide) (by decide) (nilFine_row q1) (nilFine_row q2) (by decide +kernel)).mono ?_); rintro e w' ⟨V, rfl, ⟨g3, g4, rfl, q3, q4⟩, hb⟩; have rB := chain (a := w17) hb (by assumption); obtain ⟨x0, x1, x2, x3, x4, x5, x6, x7, x8⟩ := HS.out _ rB) | (go_at_call 25; (with_reducible refine (same_ex [⟨#[97]⟩, ⟨#[98]⟩] [⟨#[120]⟩, ⟨#[121]⟩] [⟨#[97]⟩, ⟨#[98]⟩] [⟨#[120]⟩, ⟨#[121]⟩] _ _ _ _ true _ (by decide) (by decide) (by decide) (by decide) (Lst.of_row q3) (Lst.of_row q4) (Lst.of_row (ec := stc) (l := [⟨#[97]⟩, ⟨#[98]⟩]) (row_below tR_17.out (by assumption))) (Lst.of_row (ec := stc) (l := [⟨#[120]⟩, ⟨#[121]⟩]) (row_below tS_17.out (by assumption))) (by decide +kernel)).mono ?_); rintro e w' ⟨rfl, hb⟩; have rB := chain (a := w17) hb (by assumption); obtain ⟨x0, x1, x2, x3, x4, x5, x6, x7, x8⟩ := HS.out _ rB) | (go_at_call 25; (with_reducible refine (same_ex [⟨#[97]⟩, ⟨#[98]⟩] [⟨#[120]⟩, ⟨#[121]⟩] [⟨#[121]⟩] [⟨#[122]⟩] _ _ _ _ false _ (by decide) (by decide) (by decide) (by decide) (Lst.of_row (ec := stc) (l := [⟨#[97]⟩, ⟨#[98]⟩]) (row_below tR_17.out (by assumption))) (Lst.of_row (ec := stc) (l := [⟨#[120]⟩, ⟨#[121]⟩]) (row_below tS_17.out (by assumption))) (Lst.of_row (ec := stc) (l := [⟨#[121]⟩]) (row_below uR_17.out (by assumption))) (Lst.of_row (ec := stc) (l := [⟨#[122]⟩]) (row_below uS_17.out (by assumption))) (by decide +kernel)).mono ?_); rintro e w' ⟨rfl, hb⟩; have rB := chain (a := w17) hb (by assumption); obtain ⟨x0, x1, x2, x3, x4, x5, x6, x7, x8⟩ := HS.out _ rB) | (go_at_call 24; (with_reducible refine (check_ex [⟨#[97]⟩, ⟨#[98]⟩] [⟨#[120]⟩, ⟨#[121]⟩] _ _ 0 _ (Lst.of_row (ec := stc) (l := [⟨#[97]⟩, ⟨#[98]⟩]) (row_below tR_17.out (by assumption))) (Lst.of_row (ec := stc) (l := [⟨#[120]⟩, ⟨#[121]⟩]) (row_below tS_17.out (by assumption))) (by decide) (by decide) (by decide +kernel)).mono ?_); rintro e w' ⟨rfl, hb⟩; have rB := chain (a := w17) hb (by assumption); obtain ⟨x0, x1, x2, x3, x4, x5, x6, x7, x8⟩ := HS.out _ rB))
  go_wp2
  go_ret
  exact ⟨rfl, chain2 B_17.out (by assumption)⟩
end Go.Proofs.Ytadodccciejghaa
