/- Texts of one kind together. -/
import Derived.Test.YtfkmolbcgnkfdaaDoorGat
/- Are texts names: who is none is told. -/
namespace Go.Proofs.YtfkmolbcgnkfdaaDoor
open Go.RowKit
attribute [local go_sem] Oper.semAt_some
set_option maxRecDepth 100000
set_option maxHeartbeats 1000000

/-- what is wrong is told by a panic -/
def Wr (e : Int) (s : ByteArray) : Ending := .panicked [{ v := .iface 60 (.agg #[.int .i64 e, .string s]), recovered := false }]
theorem find_at {α : Type} {p : α → Bool} {l : List α} {k : Nat} {x : α} (h : ∀ y ∈ l.take k, p y = false) (hx : l[k]? = some x) (hp : p x = true) : l.find? p = some x := by
  have hd : l = l.take k ++ x :: l.drop (k + 1) := by
    obtain ⟨h1, rfl⟩ := List.getElem?_eq_some_iff.1 hx
    rw [← List.drop_eq_getElem_cons h1, List.take_append_drop]
  have := congrArg (List.find? p) hd
  rw [this, List.find?_append, List.find?_eq_none.2 (fun y hy => by rw [h y hy]; simp), Option.none_or, List.find?_cons_of_pos hp]
theorem find_none {α : Type} {p : α → Bool} {l : List α} (h : ∀ y ∈ l, p y = false) : l.find? p = none := List.find?_eq_none.2 fun y hy => by rw [h y hy]; simp
theorem names_ok (l : List ByteArray) (v : Value) (w : World) (hl : l.length ≤ 1000000) (ht : Lst stc w v l) (hn : l.find? (fun s => !nameB s) = none) :
    Calls Tryd.prog 77 #[v] w fun e w' => e = .returned (.tuple #[]) ∧ w = w' := by
  have HT := Lib.hid ht
  obtain ⟨b, c, rfl⟩ := ht.slice
  have HN := Lib.hid (fun x (hx : x ∈ l) => show nameB x = true by have := List.find?_eq_none.1 hn x hx; simpa using this)
  clear ht hn
  go_enter Tryd.func77, Tryd.ntmps77
  go_wp2
  go_loop [6] (fun i => ∃ k : Nat, k ≤ l.length ∧ i = .int .i64 (k : Int)) (fun i => l.length - (intOf i).toNat)
  case atStart => exact ⟨0, by omega, rfl⟩
  case round =>
    obtain ⟨k, hk, rfl⟩ := hrel
    by_cases hlt : k < l.length
    · have hlt' : (k : Int) < (l.length : Int) := by omega
      obtain ⟨g, o, cc, x, hx, hv, hg, hc⟩ := HT.out.at_ stc_len hlt
      injection hv with hb _ hcc
      subst hb hcc
      have c0 := hc 0 (by omega)
      simp [stc] at c0
      have HC := Lib.hid (name_any x w)
      rw [HN.out x (List.mem_of_getElem? hx)] at HC
      clear hc hx
      go_wp2_with fail
      refine HC.out.mono ?_
      rintro e w' ⟨rfl, rfl⟩
      clear HC
      go_wp2
      refine ⟨⟨k + 1, by omega, by go_num⟩, ?_⟩
      simp [intOf]; omega
    · have hge : (l.length : Int) ≤ (k : Int) := by omega
      go_wp2
      go_end0
      exact ⟨rfl, by first | rfl | trivial⟩
theorem names_bad (l : List ByteArray) (v : Value) (s : ByteArray) (w : World) (hl : l.length ≤ 1000000) (ht : Lst stc w v l) (hn : l.find? (fun s => !nameB s) = some s) :
    Calls Tryd.prog 77 #[v] w fun e w' => e = Wr 4 s ∧ w = w' := by
  have HT := Lib.hid ht
  have HF := Lib.hid hn
  obtain ⟨b, c, rfl⟩ := ht.slice
  clear ht hn
  go_enter Tryd.func77, Tryd.ntmps77
  go_wp2
  go_loop [6] (fun i => ∃ k : Nat, k ≤ l.length ∧ i = .int .i64 (k : Int) ∧ Hid (∀ y ∈ l.take k, (!nameB y) = false)) (fun i => l.length - (intOf i).toNat)
  case atStart => exact ⟨0, by omega, rfl, Lib.hid (by simp)⟩
  case round =>
    obtain ⟨k, hk, rfl, hall⟩ := hrel
    by_cases hlt : k < l.length
    · have hlt' : (k : Int) < (l.length : Int) := by omega
      obtain ⟨g, o, cc, x, hx, hv, hg, hc⟩ := HT.out.at_ stc_len hlt
      injection hv with hb _ hcc
      subst hb hcc
      have c0 := hc 0 (by omega)
      simp [stc] at c0
      have HX := Lib.hid hx
      obtain ⟨q, hq⟩ : ∃ q, nameB x = q := ⟨_, rfl⟩
      have HC := Lib.hid (name_any x w)
      rw [hq] at HC
      have HQ := Lib.hid hq
      clear hc hx hq
      go_wp2_with fail
      refine HC.out.mono ?_
      rintro e w' ⟨rfl, rfl⟩
      clear HC
      cases q
      · obtain rfl : x = s := by
          have := find_at hall.out HX.out (by rw [HQ.out]; rfl)
          rw [HF.out] at this
          exact (Option.some.inj this).symm
        clear hall HQ HF
        go_wp2
        exact ⟨rfl, rfl, by first | rfl | trivial⟩
      · have HN := Lib.hid (take_next hall.out HX.out (by rw [HQ.out]; rfl))
        clear hall HQ
        go_wp2
        refine ⟨⟨k + 1, by omega, by go_num, HN⟩, ?_⟩
        simp [intOf]; omega
    · exfalso
      have := find_none (take_whole hall.out (show l.length ≤ k by omega))
      rw [HF.out] at this
      cases this
end Go.Proofs.YtfkmolbcgnkfdaaDoor

/- Is there too much: told by a panic. -/
namespace Go.Proofs.YtfkmolbcgnkfdaaDoor
open Go.RowKit
attribute [local go_sem] Oper.semAt_some
set_option maxRecDepth 100000
set_option maxHeartbeats 1000000
theorem limit_parts {c : Ci} (h : limitB c = false) : ¬ 200 < c.ins.length + c.las.length + c.gts.length ∧ ¬ 200 < c.outs.length ∧ ∀ g ∈ c.gts, bigG g = false := by
  unfold limitB at h
  rw [Bool.or_eq_false_iff, Bool.or_eq_false_iff, decide_eq_false_iff_not, decide_eq_false_iff_not] at h
  refine ⟨h.1, h.2.1, fun g hg => ?_⟩
  have := List.any_eq_false.1 h.2.2 g hg
  simpa using this
theorem bigG_parts {g : Gt} (h : bigG g = false) : ¬ 8 < g.ins.length ∧ ¬ 128 < g.rows.length := by
  unfold bigG at h
  rw [Bool.or_eq_false_iff, decide_eq_false_iff_not, decide_eq_false_iff_not] at h
  exact h
theorem bigG_or {g : Gt} (h : bigG g = true) : 8 < g.ins.length ∨ 128 < g.rows.length := by
  unfold bigG at h
  rw [Bool.or_eq_true, decide_eq_true_eq, decide_eq_true_eq] at h
  exact h

theorem lim_ok (c : Ci) (a b l g : Value) (w : World) (h : Cir w a b l g c) (hf : Few c) (hl : limitB c = false) :
    Calls Tryd.prog 45 #[.agg #[a, b, l, g]] w fun e w' => e = .returned (.tuple #[]) ∧ Below w.heap.size w w' := by
  have H := Lib.hid h
  obtain ⟨pa, qa, pb, qb, pl, ql, pg, qg, rfl, rfl, rfl, rfl⟩ := h.slices
  have hf1 := hf.ins
  have hf2 := hf.outs
  have hf3 := hf.las
  have hf4 := hf.gts
  clear h hf
  obtain ⟨n1, n2, n3⟩ := limit_parts hl
  have HG := Lib.hid n3
  have d1 : decide ((200 : Int) < (c.ins.length : Int) + (c.las.length : Int) + (c.gts.length : Int)) = false := decide_eq_false (by omega)
  have d2 : decide ((200 : Int) < (c.outs.length : Int)) = false := decide_eq_false (by omega)
  clear hl n3
  go_enter Tryd.func45, Tryd.ntmps45
  have a1 : Below w.heap.size w (w.alloc (.cells #[.slice pa c.ins.length qa, .slice pb c.outs.length qb, .slice pl c.las.length ql, .slice pg c.gts.length qg] 26)) := ((Below.refl w.heap.size w).alloc (by first | exact Nat.le_refl _ | (simp only [World.size_alloc]; omega)) (.cells #[.slice pa c.ins.length qa, .slice pb c.outs.length qb, .slice pl c.las.length ql, .slice pg c.gts.length qg] 26))
  have T_new0 := (Blk.new w #[.slice pa c.ins.length qa, .slice pb c.outs.length qb, .slice pl c.las.length ql, .slice pg c.gts.length qg] 26)
  have KT_00 := Lib.hid T_new0
  clear T_new0
  have C_1 := Lib.hid (H.out.below a1)
  clear H
  have B_1 := Lib.hid a1
  clear a1
  go_wp2
  generalize (w.alloc (.cells #[.slice pa c.ins.length qa, .slice pb c.outs.length qb, .slice pl c.las.length ql, .slice pg c.gts.length qg] 26)) = w1 at * 
  have C_s := C_1
  have KT_s := KT_00
  have B_s := B_1
  have Qs_0 := Lib.hid (Below.refl w1.heap.size w1)
  clear d1 d2
  go_loopw [27] (fun i wr => ∃ k : Nat, k ≤ c.gts.length ∧ i = .int .i64 (k : Int) ∧ Below w1.heap.size w1 wr) (fun i _ => c.gts.length - (intOf i).toNat)
  case atStart => exact ⟨0, by omega, rfl, Below.refl _ _⟩
  case round =>
    obtain ⟨k, hk, rfl, hB⟩ := hrel
    clear C_1 Qs_0 KT_00 B_1
    have C_sr := Lib.hid (C_s.out.below hB)
    have KT_sr := Lib.hid (KT_s.out.below hB KT_s.out.lt)
    have B_sr := Lib.hid (B_s.out.trans (hB.mono B_s.out.size))
    have Qsr := Lib.hid hB
    clear hB
    by_cases hlt : k < c.gts.length
    · have hlt' : (k : Int) < (c.gts.length : Int) := by omega
      obtain ⟨eg, eo, ec, ex, er, hx, ha, hv, hg, d0, d1, d2, d3, d4⟩ := C_sr.out.gts.at_ hlt
      obtain ⟨pi, qi, ei⟩ := ha.ins.lst.slice
      obtain ⟨pr, qr, er'⟩ := ha.rows.lst.slice
      rw [ei] at d2
      rw [er'] at d3
      clear ha ei er'
      injection hv with e1 e2 e3
      subst e1 e3
      clear e2
      have HX := Lib.hid hx
      clear hx
      have B5 := Lib.hid (chain2 B_sr.out (below_one wr (.cells #[.string ex.name, .int .i64 ex.op, .slice pi ex.ins.length qi, .slice pr ex.rows.length qr, .bool ex.off] 39)))
      have Q5 := Lib.hid (chain2 Qsr.out (below_one wr (.cells #[.string ex.name, .int .i64 ex.op, .slice pi ex.ins.length qi, .slice pr ex.rows.length qr, .bool ex.off] 39)))
      obtain ⟨g1, g2⟩ := bigG_parts (HG.out ex (List.mem_of_getElem? HX.out))
      have g1' : decide ((8 : Int) < (ex.ins.length : Int)) = false := decide_eq_false (by omega)
      have g2' : decide ((128 : Int) < (ex.rows.length : Int)) = false := decide_eq_false (by omega)
      have lT_0 : w.heap.size < wr.heap.size := KT_sr.out.lt
      have cT_0_0 : wr.cell? ⟨w.heap.size, 0, none⟩ = some (.slice pa c.ins.length qa) := KT_sr.out.cell 0
      have cT_1_0 : wr.cell? ⟨w.heap.size, 1, none⟩ = some (.slice pb c.outs.length qb) := KT_sr.out.cell 1
      have cT_2_0 : wr.cell? ⟨w.heap.size, 2, none⟩ = some (.slice pl c.las.length ql) := KT_sr.out.cell 2
      have cT_3_0 : wr.cell? ⟨w.heap.size, 3, none⟩ = some (.slice (some ⟨eg, eo, none⟩) c.gts.length qg) := KT_sr.out.cell 3
      go_wp2
      refine ⟨⟨k + 1, by omega, by go_num, Q5.out⟩, ?_⟩
      simp [intOf]; omega
    · have hge : (c.gts.length : Int) ≤ (k : Int) := by omega
      go_wp2
      go_end0
      exact ⟨rfl, B_sr.out⟩

theorem lim_bad (c : Ci) (a b l g : Value) (w : World) (h : Cir w a b l g c) (hf : Few c) (hl : limitB c = true) :
    Calls Tryd.prog 45 #[.agg #[a, b, l, g]] w fun e w' => e = Wr 8 noneT ∧ Below w.heap.size w w' := by
  have H := Lib.hid h
  obtain ⟨pa, qa, pb, qb, pl, ql, pg, qg, rfl, rfl, rfl, rfl⟩ := h.slices
  have hf1 := hf.ins
  have hf2 := hf.outs
  have hf3 := hf.las
  have hf4 := hf.gts
  clear h hf
  have HL := Lib.hid hl
  clear hl
  have BT := Lib.hid (below_one w (.cells #[.slice pa c.ins.length qa, .slice pb c.outs.length qb, .slice pl c.las.length ql, .slice pg c.gts.length qg] 26))
  by_cases d1 : (200 : Int) < (c.ins.length : Int) + (c.las.length : Int) + (c.gts.length : Int)
  · go_enter Tryd.func45, Tryd.ntmps45
    go_wp2
    exact ⟨rfl, rfl, BT.out⟩
  · have n1 : ¬ 200 < c.ins.length + c.las.length + c.gts.length := by omega
    have d1' : decide ((200 : Int) < (c.ins.length : Int) + (c.las.length : Int) + (c.gts.length : Int)) = false := decide_eq_false d1
    clear d1
    by_cases d2 : (200 : Int) < (c.outs.length : Int)
    · go_enter Tryd.func45, Tryd.ntmps45
      go_wp2
      exact ⟨rfl, rfl, BT.out⟩
    · have n2 : ¬ 200 < c.outs.length := by omega
      have d2' : decide ((200 : Int) < (c.outs.length : Int)) = false := decide_eq_false d2
      clear d2
      have d1 := d1'
      have d2 := d2'
      clear d1' d2'
      go_enter Tryd.func45, Tryd.ntmps45
      have a1 : Below w.heap.size w (w.alloc (.cells #[.slice pa c.ins.length qa, .slice pb c.outs.length qb, .slice pl c.las.length ql, .slice pg c.gts.length qg] 26)) := ((Below.refl w.heap.size w).alloc (by first | exact Nat.le_refl _ | (simp only [World.size_alloc]; omega)) (.cells #[.slice pa c.ins.length qa, .slice pb c.outs.length qb, .slice pl c.las.length ql, .slice pg c.gts.length qg] 26))
      have T_new0 := (Blk.new w #[.slice pa c.ins.length qa, .slice pb c.outs.length qb, .slice pl c.las.length ql, .slice pg c.gts.length qg] 26)
      have KT_00 := Lib.hid T_new0
      clear T_new0
      have C_1 := Lib.hid (H.out.below a1)
      clear H
      have B_1 := Lib.hid a1
      clear a1
      go_wp2
      generalize (w.alloc (.cells #[.slice pa c.ins.length qa, .slice pb c.outs.length qb, .slice pl c.las.length ql, .slice pg c.gts.length qg] 26)) = w1 at * 
      have C_s := C_1
      have KT_s := KT_00
      have B_s := B_1
      have Qs_0 := Lib.hid (Below.refl w1.heap.size w1)
      clear d1 d2
      go_loopw [27] (fun i wr => ∃ k : Nat, k ≤ c.gts.length ∧ i = .int .i64 (k : Int) ∧ Below w1.heap.size w1 wr ∧ Hid (∀ g ∈ c.gts.take k, bigG g = false)) (fun i _ => c.gts.length - (intOf i).toNat)
      case atStart => exact ⟨0, by omega, rfl, Below.refl _ _, Lib.hid (by simp)⟩
      case round =>
        obtain ⟨k, hk, rfl, hB, hall⟩ := hrel
        clear C_1 Qs_0 KT_00 B_1
        have C_sr := Lib.hid (C_s.out.below hB)
        have KT_sr := Lib.hid (KT_s.out.below hB KT_s.out.lt)
        have B_sr := Lib.hid (B_s.out.trans (hB.mono B_s.out.size))
        have Qsr := Lib.hid hB
        clear hB
        by_cases hlt : k < c.gts.length
        · have hlt' : (k : Int) < (c.gts.length : Int) := by omega
          obtain ⟨eg, eo, ec, ex, er, hx, ha, hv, hg, d0, d1, d2, d3, d4⟩ := C_sr.out.gts.at_ hlt
          obtain ⟨pi, qi, ei⟩ := ha.ins.lst.slice
          obtain ⟨pr, qr, er'⟩ := ha.rows.lst.slice
          rw [ei] at d2
          rw [er'] at d3
          clear ha ei er'
          injection hv with e1 e2 e3
          subst e1 e3
          clear e2
          have HX := Lib.hid hx
          clear hx
          have B5 := Lib.hid (chain2 B_sr.out (below_one wr (.cells #[.string ex.name, .int .i64 ex.op, .slice pi ex.ins.length qi, .slice pr ex.rows.length qr, .bool ex.off] 39)))
          have Q5 := Lib.hid (chain2 Qsr.out (below_one wr (.cells #[.string ex.name, .int .i64 ex.op, .slice pi ex.ins.length qi, .slice pr ex.rows.length qr, .bool ex.off] 39)))
          by_cases g1 : (8 : Int) < (ex.ins.length : Int)
          · have lT_0 : w.heap.size < wr.heap.size := KT_sr.out.lt
            have cT_0_0 : wr.cell? ⟨w.heap.size, 0, none⟩ = some (.slice pa c.ins.length qa) := KT_sr.out.cell 0
            have cT_1_0 : wr.cell? ⟨w.heap.size, 1, none⟩ = some (.slice pb c.outs.length qb) := KT_sr.out.cell 1
            have cT_2_0 : wr.cell? ⟨w.heap.size, 2, none⟩ = some (.slice pl c.las.length ql) := KT_sr.out.cell 2
            have cT_3_0 : wr.cell? ⟨w.heap.size, 3, none⟩ = some (.slice (some ⟨eg, eo, none⟩) c.gts.length qg) := KT_sr.out.cell 3
            clear hall
            go_wp2
            exact ⟨rfl, rfl, B5.out⟩
          · have g1' : decide ((8 : Int) < (ex.ins.length : Int)) = false := decide_eq_false g1
            by_cases g2 : (128 : Int) < (ex.rows.length : Int)
            · have lT_0 : w.heap.size < wr.heap.size := KT_sr.out.lt
              have cT_0_0 : wr.cell? ⟨w.heap.size, 0, none⟩ = some (.slice pa c.ins.length qa) := KT_sr.out.cell 0
              have cT_1_0 : wr.cell? ⟨w.heap.size, 1, none⟩ = some (.slice pb c.outs.length qb) := KT_sr.out.cell 1
              have cT_2_0 : wr.cell? ⟨w.heap.size, 2, none⟩ = some (.slice pl c.las.length ql) := KT_sr.out.cell 2
              have cT_3_0 : wr.cell? ⟨w.heap.size, 3, none⟩ = some (.slice (some ⟨eg, eo, none⟩) c.gts.length qg) := KT_sr.out.cell 3
              clear hall
              go_wp2
              exact ⟨rfl, rfl, B5.out⟩
            · have g2' : decide ((128 : Int) < (ex.rows.length : Int)) = false := decide_eq_false g2
              have HN := Lib.hid (take_next hall.out HX.out (bigG_no (by omega) (by omega)))
              clear hall
              have lT_0 : w.heap.size < wr.heap.size := KT_sr.out.lt
              have cT_0_0 : wr.cell? ⟨w.heap.size, 0, none⟩ = some (.slice pa c.ins.length qa) := KT_sr.out.cell 0
              have cT_1_0 : wr.cell? ⟨w.heap.size, 1, none⟩ = some (.slice pb c.outs.length qb) := KT_sr.out.cell 1
              have cT_2_0 : wr.cell? ⟨w.heap.size, 2, none⟩ = some (.slice pl c.las.length ql) := KT_sr.out.cell 2
              have cT_3_0 : wr.cell? ⟨w.heap.size, 3, none⟩ = some (.slice (some ⟨eg, eo, none⟩) c.gts.length qg) := KT_sr.out.cell 3
              go_wp2
              refine ⟨⟨k + 1, by omega, by go_num, Q5.out, HN⟩, ?_⟩
              simp [intOf]; omega
        · exfalso
          have hl := limit_not (take_whole hall.out (show c.gts.length ≤ k by omega))
          rw [HL.out, decide_eq_false n1, decide_eq_false n2] at hl
          cases hl
end Go.Proofs.YtfkmolbcgnkfdaaDoor

/- Are all that are told names. -/
namespace Go.Proofs.YtfkmolbcgnkfdaaDoor
open Go.RowKit
attribute [local go_sem] Oper.semAt_some
set_option maxRecDepth 100000
set_option maxHeartbeats 1000000
theorem flat_none {α β : Type} {f : α → List β} {p : β → Bool} {l : List α} : (l.flatMap f).find? p = none ↔ ∀ y ∈ l, (f y).find? p = none := by
  simp only [List.find?_eq_none, List.mem_flatMap]
  exact ⟨fun h y hy x hx => h x ⟨y, hy, hx⟩, fun h x ⟨y, hy, hx⟩ => h y hy x hx⟩
theorem flat_find {α β : Type} {f : α → List β} {p : β → Bool} {l : List α} {k : Nat} {x : α} {s : β} (h : ∀ y ∈ l.take k, (f y).find? p = none) (hx : l[k]? = some x) (hs : (f x).find? p = some s) : (l.flatMap f).find? p = some s := by
  have hd : l = l.take k ++ x :: l.drop (k + 1) := by
    obtain ⟨h1, rfl⟩ := List.getElem?_eq_some_iff.1 hx
    rw [← List.drop_eq_getElem_cons h1, List.take_append_drop]
  have := congrArg (fun l => (l.flatMap f).find? p) hd
  rw [this, List.flatMap_append, List.find?_append, flat_none.2 h, Option.none_or, List.flatMap_cons, List.find?_append, hs, Option.some_or]
def noN (s : ByteArray) : Bool := !nameB s
def laT (l : La) : List ByteArray := [l.name, l.next]
def gtT (g : Gt) : List ByteArray := g.name :: g.ins
theorem told_find (c : Ci) : (toldC c).find? noN = ((c.ins.find? noN).or ((c.outs.find? noN).or (((c.las.flatMap laT).find? noN).or ((c.gts.flatMap gtT).find? noN)))) := by
  unfold toldC
  rw [List.find?_append, List.find?_append, List.find?_append]
  rfl
theorem gt_find (g : Gt) : (gtT g).find? noN = ([g.name].find? noN).or (g.ins.find? noN) := by
  rw [show gtT g = [g.name] ++ g.ins from rfl, List.find?_append]
theorem or_none {α : Type} {a b : Option α} (h : a.or b = none) : a = none ∧ b = none := by
  cases a
  · exact ⟨rfl, h⟩
  · cases h

theorem cnames_ok (c : Ci) (a b l g : Value) (w : World) (h : Cir w a b l g c) (hf : Few c) (hg : FewG c.gts) (hn : (toldC c).find? noN = none) :
    Calls Tryd.prog 46 #[.agg #[a, b, l, g]] w fun e w' => e = .returned (.tuple #[]) ∧ Below w.heap.size w w' := by
  have H := Lib.hid h
  obtain ⟨pa, qa, pb, qb, pl, ql, pg, qg, rfl, rfl, rfl, rfl⟩ := h.slices
  have hf1 := hf.ins
  have hf2 := hf.outs
  have hf3 := hf.las
  have hf4 := hf.gts
  have HG := Lib.hid hg
  clear h hf hg
  rw [told_find] at hn
  obtain ⟨h1, hn⟩ := or_none hn
  obtain ⟨h2, hn⟩ := or_none hn
  obtain ⟨h3, h4⟩ := or_none hn
  have H1 := Lib.hid h1
  have H2 := Lib.hid h2
  have H3 := Lib.hid (flat_none.1 h3)
  have H4 := Lib.hid (flat_none.1 h4)
  clear h1 h2 h3 h4 hn
  go_enter Tryd.func46, Tryd.ntmps46
  go_wp2_with fail
  have a1 : Below w.heap.size w (w.alloc (.cells #[.slice pa c.ins.length qa, .slice pb c.outs.length qb, .slice pl c.las.length ql, .slice pg c.gts.length qg] 26)) := ((Below.refl w.heap.size w).alloc (by first | exact Nat.le_refl _ | (simp only [World.size_alloc]; omega)) (.cells #[.slice pa c.ins.length qa, .slice pb c.outs.length qb, .slice pl c.las.length ql, .slice pg c.gts.length qg] 26))
  have T_new0 := (Blk.new w #[.slice pa c.ins.length qa, .slice pb c.outs.length qb, .slice pl c.las.length ql, .slice pg c.gts.length qg] 26)
  have KT_00 := Lib.hid T_new0
  clear T_new0
  have C_1 := Lib.hid (H.out.below a1)
  clear H
  have B_1 := Lib.hid a1
  clear a1
  generalize (w.alloc (.cells #[.slice pa c.ins.length qa, .slice pb c.outs.length qb, .slice pl c.las.length ql, .slice pg c.gts.length qg] 26)) = w1 at C_1 KT_00 B_1 ⊢
  refine (names_ok c.ins _ _ (by omega) C_1.out.ins.lst H1.out).mono ?_
  rintro e w' ⟨rfl, rfl⟩
  have lT_1 : w.heap.size < w1.heap.size := KT_00.out.lt
  have cT_0_1 : w1.cell? ⟨w.heap.size, 0, none⟩ = some (.slice pa c.ins.length qa) := KT_00.out.cell 0
  have cT_1_1 : w1.cell? ⟨w.heap.size, 1, none⟩ = some (.slice pb c.outs.length qb) := KT_00.out.cell 1
  have cT_2_1 : w1.cell? ⟨w.heap.size, 2, none⟩ = some (.slice pl c.las.length ql) := KT_00.out.cell 2
  have cT_3_1 : w1.cell? ⟨w.heap.size, 3, none⟩ = some (.slice pg c.gts.length qg) := KT_00.out.cell 3
  go_wp2_with fail
  clear lT_1 cT_0_1 cT_1_1 cT_2_1 cT_3_1
  refine (names_ok c.outs _ _ (by omega) C_1.out.outs.lst H2.out).mono ?_
  rintro e w' ⟨rfl, rfl⟩
  have C_s := C_1
  have KT_s := KT_00
  have B_s := B_1
  have Qs_0 := Lib.hid (Below.refl w1.heap.size w1)
  have lT_1 : w.heap.size < w1.heap.size := KT_00.out.lt
  have cT_0_1 : w1.cell? ⟨w.heap.size, 0, none⟩ = some (.slice pa c.ins.length qa) := KT_00.out.cell 0
  have cT_1_1 : w1.cell? ⟨w.heap.size, 1, none⟩ = some (.slice pb c.outs.length qb) := KT_00.out.cell 1
  have cT_2_1 : w1.cell? ⟨w.heap.size, 2, none⟩ = some (.slice pl c.las.length ql) := KT_00.out.cell 2
  have cT_3_1 : w1.cell? ⟨w.heap.size, 3, none⟩ = some (.slice pg c.gts.length qg) := KT_00.out.cell 3
  go_wp2
  clear lT_1 cT_0_1 cT_1_1 cT_2_1 cT_3_1
  go_loopw [15] (fun i wr => ∃ k : Nat, k ≤ c.las.length ∧ i = .int .i64 (k : Int) ∧ Below w1.heap.size w1 wr) (fun i _ => c.las.length - (intOf i).toNat)
  case atStart => exact ⟨0, by omega, rfl, Below.refl _ _⟩
  case round =>
    obtain ⟨k, hk, rfl, hB⟩ := hrel
    clear C_1 Qs_0 KT_00 B_1
    have C_sr := Lib.hid (C_s.out.below hB)
    have KT_sr := Lib.hid (KT_s.out.below hB KT_s.out.lt)
    have B_sr := Lib.hid (B_s.out.trans (hB.mono B_s.out.size))
    have Qsr := Lib.hid hB
    clear hB
    by_cases hlt : k < c.las.length
    · have hlt' : (k : Int) < (c.las.length : Int) := by omega
      obtain ⟨eg, eo, ec, ex, hx, hv, hg, d0, d1, d2⟩ := C_sr.out.las.at_ hlt
      injection hv with e1 e2 e3
      subst e1 e3
      clear e2
      have HX := Lib.hid hx
      clear hx
      have lT_0 : w.heap.size < wr.heap.size := KT_sr.out.lt
      have cT_0_0 : wr.cell? ⟨w.heap.size, 0, none⟩ = some (.slice pa c.ins.length qa) := KT_sr.out.cell 0
      have cT_1_0 : wr.cell? ⟨w.heap.size, 1, none⟩ = some (.slice pb c.outs.length qb) := KT_sr.out.cell 1
      have cT_2_0 : wr.cell? ⟨w.heap.size, 2, none⟩ = some (.slice (some ⟨eg, eo, none⟩) c.las.length ql) := KT_sr.out.cell 2
      have cT_3_0 : wr.cell? ⟨w.heap.size, 3, none⟩ = some (.slice pg c.gts.length qg) := KT_sr.out.cell 3
      go_wp2_with fail
      clear d0 d1 d2
      clear lT_0 cT_0_0 cT_1_0 cT_2_0 cT_3_0
      have a2 : Below wr.heap.size wr ((wr.alloc (.cells #[.string ex.name, .string ex.next, .int .i64 ex.init] 58)).alloc (.cells #[.string ex.name, .string ex.next] 9)) := (((Below.refl wr.heap.size wr).alloc (by first | exact Nat.le_refl _ | (simp only [World.size_alloc]; omega)) (.cells #[.string ex.name, .string ex.next, .int .i64 ex.init] 58)).alloc (by first | exact Nat.le_refl _ | (simp only [World.size_alloc]; omega)) (.cells #[.string ex.name, .string ex.next] 9))
      have L_new0 := ((Blk.new wr #[.string ex.name, .string ex.next, .int .i64 ex.init] 58).alloc (.cells #[.string ex.name, .string ex.next] 9))
      have KL_00 := Lib.hid L_new0
      clear L_new0
      have P_new0 := (Blk.new (wr.alloc (.cells #[.string ex.name, .string ex.next, .int .i64 ex.init] 58)) #[.string ex.name, .string ex.next] 9)
      rw [World.size_alloc] at P_new0
      have KP_00 := Lib.hid P_new0
      clear P_new0
      have C_1 := Lib.hid (C_sr.out.below a2)
      clear C_sr
      have Qs_1 := Lib.hid (Qsr.out.trans (a2.mono Qsr.out.size))
      clear Qsr
      have KT_1 := Lib.hid (KT_sr.out.below a2 KT_sr.out.lt)
      clear KT_sr
      have B_1 := Lib.hid (B_sr.out.trans (a2.mono B_sr.out.size))
      clear B_sr
      clear a2
      generalize ((wr.alloc (.cells #[.string ex.name, .string ex.next, .int .i64 ex.init] 58)).alloc (.cells #[.string ex.name, .string ex.next] 9)) = wr1 at C_1 Qs_1 KT_1 KL_00 KP_00 B_1 ⊢
      refine (names_ok [ex.name, ex.next] _ _ (by simp) (two_blk KP_00.out) (H3.out ex (List.mem_of_getElem? HX.out))).mono ?_
      rintro e w' ⟨rfl, rfl⟩
      go_wp2
      refine ⟨⟨k + 1, by omega, by go_num, Qs_1.out⟩, ?_⟩
      simp [intOf]; omega
    · have hge : (c.las.length : Int) ≤ (k : Int) := by omega
      have C_t := C_sr
      have Qs_t := Qsr
      have KT_t := KT_sr
      have B_t := B_sr
      have Qt_0 := Lib.hid (Below.refl wr.heap.size wr)
      have lT_0 : w.heap.size < wr.heap.size := KT_sr.out.lt
      have cT_0_0 : wr.cell? ⟨w.heap.size, 0, none⟩ = some (.slice pa c.ins.length qa) := KT_sr.out.cell 0
      have cT_1_0 : wr.cell? ⟨w.heap.size, 1, none⟩ = some (.slice pb c.outs.length qb) := KT_sr.out.cell 1
      have cT_2_0 : wr.cell? ⟨w.heap.size, 2, none⟩ = some (.slice pl c.las.length ql) := KT_sr.out.cell 2
      have cT_3_0 : wr.cell? ⟨w.heap.size, 3, none⟩ = some (.slice pg c.gts.length qg) := KT_sr.out.cell 3
      go_wp2
      clear lT_0 cT_0_0 cT_1_0 cT_2_0 cT_3_0
      go_loopw [29] (fun i wq => ∃ j : Nat, j ≤ c.gts.length ∧ i = .int .i64 (j : Int) ∧ Below wr.heap.size wr wq) (fun i _ => c.gts.length - (intOf i).toNat)
      case atStart => exact ⟨0, by omega, rfl, Below.refl _ _⟩
      case round =>
        obtain ⟨j, hj, rfl, hB⟩ := hrel
        clear C_sr Qsr Qt_0 KT_sr B_sr
        have C_tr := Lib.hid (C_t.out.below hB)
        have Qs_tr := Lib.hid (Qs_t.out.trans (hB.mono Qs_t.out.size))
        have KT_tr := Lib.hid (KT_t.out.below hB KT_t.out.lt)
        have B_tr := Lib.hid (B_t.out.trans (hB.mono B_t.out.size))
        have Qtr := Lib.hid hB
        clear hB
        by_cases hlt2 : j < c.gts.length
        · have hlt' : (j : Int) < (c.gts.length : Int) := by omega
          obtain ⟨eg, eo, ec, ex, er, hx, ha, hv, hg, d0, d1, d2, d3, d4⟩ := C_tr.out.gts.at_ hlt2
          have HA := Lib.hid ha.ins
          obtain ⟨pi, qi, ei⟩ := ha.ins.lst.slice
          obtain ⟨pr, qr, er'⟩ := ha.rows.lst.slice
          rw [ei] at d2 HA
          rw [er'] at d3
          clear ha ei er'
          injection hv with e1 e2 e3
          subst e1 e3
          clear e2
          have HX := Lib.hid hx
          clear hx
          have hil := (HG.out ex (List.mem_of_getElem? HX.out)).1
          have lT_0 : w.heap.size < wr.heap.size := KT_tr.out.lt
          have cT_0_0 : wr.cell? ⟨w.heap.size, 0, none⟩ = some (.slice pa c.ins.length qa) := KT_tr.out.cell 0
          have cT_1_0 : wr.cell? ⟨w.heap.size, 1, none⟩ = some (.slice pb c.outs.length qb) := KT_tr.out.cell 1
          have cT_2_0 : wr.cell? ⟨w.heap.size, 2, none⟩ = some (.slice pl c.las.length ql) := KT_tr.out.cell 2
          have cT_3_0 : wr.cell? ⟨w.heap.size, 3, none⟩ = some (.slice (some ⟨eg, eo, none⟩) c.gts.length qg) := KT_tr.out.cell 3
          go_wp2_with fail
          clear d0 d1 d2 d3 d4
          clear lT_0 cT_0_0 cT_1_0 cT_2_0 cT_3_0
          have a2 : Below wr.heap.size wr ((wr.alloc (.cells #[.string ex.name, .int .i64 ex.op, .slice pi ex.ins.length qi, .slice pr ex.rows.length qr, .bool ex.off] 39)).alloc (.cells #[.string ex.name] 9)) := (((Below.refl wr.heap.size wr).alloc (by first | exact Nat.le_refl _ | (simp only [World.size_alloc]; omega)) (.cells #[.string ex.name, .int .i64 ex.op, .slice pi ex.ins.length qi, .slice pr ex.rows.length qr, .bool ex.off] 39)).alloc (by first | exact Nat.le_refl _ | (simp only [World.size_alloc]; omega)) (.cells #[.string ex.name] 9))
          have G_new0 := ((Blk.new wr #[.string ex.name, .int .i64 ex.op, .slice pi ex.ins.length qi, .slice pr ex.rows.length qr, .bool ex.off] 39).alloc (.cells #[.string ex.name] 9))
          have KG_00 := Lib.hid G_new0
          clear G_new0
          have P_new0 := (Blk.new (wr.alloc (.cells #[.string ex.name, .int .i64 ex.op, .slice pi ex.ins.length qi, .slice pr ex.rows.length qr, .bool ex.off] 39)) #[.string ex.name] 9)
          rw [World.size_alloc] at P_new0
          have KP_00 := Lib.hid P_new0
          clear P_new0
          have C_1 := Lib.hid (C_tr.out.below a2)
          clear C_tr
          have Qs_1 := Lib.hid (Qs_tr.out.trans (a2.mono Qs_tr.out.size))
          clear Qs_tr
          have Qt_1 := Lib.hid (Qtr.out.trans (a2.mono Qtr.out.size))
          clear Qtr
          have I_1 := Lib.hid (HA.out.below a2)
          clear HA
          have KT_1 := Lib.hid (KT_tr.out.below a2 KT_tr.out.lt)
          clear KT_tr
          have B_1 := Lib.hid (B_tr.out.trans (a2.mono B_tr.out.size))
          clear B_tr
          clear a2
          generalize ((wr.alloc (.cells #[.string ex.name, .int .i64 ex.op, .slice pi ex.ins.length qi, .slice pr ex.rows.length qr, .bool ex.off] 39)).alloc (.cells #[.string ex.name] 9)) = wr1 at C_1 Qs_1 Qt_1 I_1 KT_1 KG_00 KP_00 B_1 ⊢
          have ho := H4.out ex (List.mem_of_getElem? HX.out)
          rw [gt_find] at ho
          obtain ⟨o1, o2⟩ := or_none ho
          have O1 := Lib.hid o1
          have O2 := Lib.hid o2
          clear ho o1 o2
          refine (names_ok [ex.name] _ _ (by simp) (one_blk KP_00.out) O1.out).mono ?_
          rintro e w' ⟨rfl, rfl⟩
          have lG_1 : wr.heap.size < wr1.heap.size := KG_00.out.lt
          have cG_0_1 : wr1.cell? ⟨wr.heap.size, 0, none⟩ = some (.string ex.name) := KG_00.out.cell 0
          have cG_1_1 : wr1.cell? ⟨wr.heap.size, 1, none⟩ = some (.int .i64 ex.op) := KG_00.out.cell 1
          have cG_2_1 : wr1.cell? ⟨wr.heap.size, 2, none⟩ = some (.slice pi ex.ins.length qi) := KG_00.out.cell 2
          have cG_3_1 : wr1.cell? ⟨wr.heap.size, 3, none⟩ = some (.slice pr ex.rows.length qr) := KG_00.out.cell 3
          have cG_4_1 : wr1.cell? ⟨wr.heap.size, 4, none⟩ = some (.bool ex.off) := KG_00.out.cell 4
          go_wp2_with fail
          clear lG_1 cG_0_1 cG_1_1 cG_2_1 cG_3_1 cG_4_1
          refine (names_ok ex.ins _ _ (by omega) I_1.out.lst O2.out).mono ?_
          rintro e w' ⟨rfl, rfl⟩
          go_wp2
          refine ⟨⟨j + 1, by omega, by go_num, Qt_1.out⟩, ?_⟩
          simp [intOf]; omega
        · have hge2 : (c.gts.length : Int) ≤ (j : Int) := by omega
          go_wp2
          go_end0
          exact ⟨rfl, B_tr.out⟩

theorem cnames_bad (c : Ci) (a b l g : Value) (s : ByteArray) (w : World) (h : Cir w a b l g c) (hf : Few c) (hg : FewG c.gts) (hn : (toldC c).find? noN = some s) :
    Calls Tryd.prog 46 #[.agg #[a, b, l, g]] w fun e w' => e = Wr 4 s ∧ Below w.heap.size w w' := by
  have H := Lib.hid h
  obtain ⟨pa, qa, pb, qb, pl, ql, pg, qg, rfl, rfl, rfl, rfl⟩ := h.slices
  have hf1 := hf.ins
  have hf2 := hf.outs
  have hf3 := hf.las
  have hf4 := hf.gts
  have HG := Lib.hid hg
  clear h hf hg
  rw [told_find] at hn
  obtain ⟨o, ho⟩ : ∃ o, c.ins.find? noN = o := ⟨_, rfl⟩
  cases o with
  | some t =>
    rw [ho, Option.some_or] at hn
    obtain rfl := Option.some.inj hn
    have HO := Lib.hid ho
    clear ho hn
    go_enter Tryd.func46, Tryd.ntmps46
    go_wp2_with fail
    have a1 : Below w.heap.size w (w.alloc (.cells #[.slice pa c.ins.length qa, .slice pb c.outs.length qb, .slice pl c.las.length ql, .slice pg c.gts.length qg] 26)) := ((Below.refl w.heap.size w).alloc (by first | exact Nat.le_refl _ | (simp only [World.size_alloc]; omega)) (.cells #[.slice pa c.ins.length qa, .slice pb c.outs.length qb, .slice pl c.las.length ql, .slice pg c.gts.length qg] 26))
    have T_new0 := (Blk.new w #[.slice pa c.ins.length qa, .slice pb c.outs.length qb, .slice pl c.las.length ql, .slice pg c.gts.length qg] 26)
    have KT_00 := Lib.hid T_new0
    clear T_new0
    have C_1 := Lib.hid (H.out.below a1)
    clear H
    have B_1 := Lib.hid a1
    clear a1
    generalize (w.alloc (.cells #[.slice pa c.ins.length qa, .slice pb c.outs.length qb, .slice pl c.las.length ql, .slice pg c.gts.length qg] 26)) = w1 at C_1 KT_00 B_1 ⊢
    refine (names_bad c.ins _ t _ (by omega) C_1.out.ins.lst HO.out).mono ?_
    rintro e w' ⟨rfl, rfl⟩
    unfold Wr
    go_wp2
    exact ⟨rfl, rfl, B_1.out⟩
  | none =>
    rw [ho, Option.none_or] at hn
    have HO := Lib.hid ho
    clear ho
    obtain ⟨o, ho⟩ : ∃ o, c.outs.find? noN = o := ⟨_, rfl⟩
    cases o with
    | some t =>
      rw [ho, Option.some_or] at hn
      obtain rfl := Option.some.inj hn
      have HO2 := Lib.hid ho
      clear ho hn
      go_enter Tryd.func46, Tryd.ntmps46
      go_wp2_with fail
      have a1 : Below w.heap.size w (w.alloc (.cells #[.slice pa c.ins.length qa, .slice pb c.outs.length qb, .slice pl c.las.length ql, .slice pg c.gts.length qg] 26)) := ((Below.refl w.heap.size w).alloc (by first | exact Nat.le_refl _ | (simp only [World.size_alloc]; omega)) (.cells #[.slice pa c.ins.length qa, .slice pb c.outs.length qb, .slice pl c.las.length ql, .slice pg c.gts.length qg] 26))
      have T_new0 := (Blk.new w #[.slice pa c.ins.length qa, .slice pb c.outs.length qb, .slice pl c.las.length ql, .slice pg c.gts.length qg] 26)
      have KT_00 := Lib.hid T_new0
      clear T_new0
      have C_1 := Lib.hid (H.out.below a1)
      clear H
      have B_1 := Lib.hid a1
      clear a1
      generalize (w.alloc (.cells #[.slice pa c.ins.length qa, .slice pb c.outs.length qb, .slice pl c.las.length ql, .slice pg c.gts.length qg] 26)) = w1 at C_1 KT_00 B_1 ⊢
      refine (names_ok c.ins _ _ (by omega) C_1.out.ins.lst HO.out).mono ?_
      rintro e w' ⟨rfl, rfl⟩
      have lT_1 : w.heap.size < w1.heap.size := KT_00.out.lt
      have cT_0_1 : w1.cell? ⟨w.heap.size, 0, none⟩ = some (.slice pa c.ins.length qa) := KT_00.out.cell 0
      have cT_1_1 : w1.cell? ⟨w.heap.size, 1, none⟩ = some (.slice pb c.outs.length qb) := KT_00.out.cell 1
      have cT_2_1 : w1.cell? ⟨w.heap.size, 2, none⟩ = some (.slice pl c.las.length ql) := KT_00.out.cell 2
      have cT_3_1 : w1.cell? ⟨w.heap.size, 3, none⟩ = some (.slice pg c.gts.length qg) := KT_00.out.cell 3
      go_wp2_with fail
      clear lT_1 cT_0_1 cT_1_1 cT_2_1 cT_3_1
      refine (names_bad c.outs _ t _ (by omega) C_1.out.outs.lst HO2.out).mono ?_
      rintro e w' ⟨rfl, rfl⟩
      unfold Wr
      go_wp2
      exact ⟨rfl, rfl, B_1.out⟩
    | none =>
      rw [ho, Option.none_or] at hn
      have HO2 := Lib.hid ho
      clear ho
      go_enter Tryd.func46, Tryd.ntmps46
      go_wp2_with fail
      have a1 : Below w.heap.size w (w.alloc (.cells #[.slice pa c.ins.length qa, .slice pb c.outs.length qb, .slice pl c.las.length ql, .slice pg c.gts.length qg] 26)) := ((Below.refl w.heap.size w).alloc (by first | exact Nat.le_refl _ | (simp only [World.size_alloc]; omega)) (.cells #[.slice pa c.ins.length qa, .slice pb c.outs.length qb, .slice pl c.las.length ql, .slice pg c.gts.length qg] 26))
      have T_new0 := (Blk.new w #[.slice pa c.ins.length qa, .slice pb c.outs.length qb, .slice pl c.las.length ql, .slice pg c.gts.length qg] 26)
      have KT_00 := Lib.hid T_new0
      clear T_new0
      have C_1 := Lib.hid (H.out.below a1)
      clear H
      have B_1 := Lib.hid a1
      clear a1
      generalize (w.alloc (.cells #[.slice pa c.ins.length qa, .slice pb c.outs.length qb, .slice pl c.las.length ql, .slice pg c.gts.length qg] 26)) = w1 at C_1 KT_00 B_1 ⊢
      refine (names_ok c.ins _ _ (by omega) C_1.out.ins.lst HO.out).mono ?_
      rintro e w' ⟨rfl, rfl⟩
      have lT_1 : w.heap.size < w1.heap.size := KT_00.out.lt
      have cT_0_1 : w1.cell? ⟨w.heap.size, 0, none⟩ = some (.slice pa c.ins.length qa) := KT_00.out.cell 0
      have cT_1_1 : w1.cell? ⟨w.heap.size, 1, none⟩ = some (.slice pb c.outs.length qb) := KT_00.out.cell 1
      have cT_2_1 : w1.cell? ⟨w.heap.size, 2, none⟩ = some (.slice pl c.las.length ql) := KT_00.out.cell 2
      have cT_3_1 : w1.cell? ⟨w.heap.size, 3, none⟩ = some (.slice pg c.gts.length qg) := KT_00.out.cell 3
      go_wp2_with fail
      clear lT_1 cT_0_1 cT_1_1 cT_2_1 cT_3_1
      refine (names_ok c.outs _ _ (by omega) C_1.out.outs.lst HO2.out).mono ?_
      rintro e w' ⟨rfl, rfl⟩
      have C_s := C_1
      have KT_s := KT_00
      have B_s := B_1
      have Qs_0 := Lib.hid (Below.refl w1.heap.size w1)
      have lT_1 : w.heap.size < w1.heap.size := KT_00.out.lt
      have cT_0_1 : w1.cell? ⟨w.heap.size, 0, none⟩ = some (.slice pa c.ins.length qa) := KT_00.out.cell 0
      have cT_1_1 : w1.cell? ⟨w.heap.size, 1, none⟩ = some (.slice pb c.outs.length qb) := KT_00.out.cell 1
      have cT_2_1 : w1.cell? ⟨w.heap.size, 2, none⟩ = some (.slice pl c.las.length ql) := KT_00.out.cell 2
      have cT_3_1 : w1.cell? ⟨w.heap.size, 3, none⟩ = some (.slice pg c.gts.length qg) := KT_00.out.cell 3
      go_wp2
      clear lT_1 cT_0_1 cT_1_1 cT_2_1 cT_3_1
      have HN := Lib.hid hn
      clear hn
      go_loopw [15] (fun i wr => ∃ k : Nat, k ≤ c.las.length ∧ i = .int .i64 (k : Int) ∧ Below w1.heap.size w1 wr ∧ Hid (∀ g ∈ c.las.take k, (laT g).find? noN = none)) (fun i _ => c.las.length - (intOf i).toNat)
      case atStart => exact ⟨0, by omega, rfl, Below.refl _ _, Lib.hid (by simp)⟩
      case round =>
        obtain ⟨k, hk, rfl, hB, hall⟩ := hrel
        clear C_1 Qs_0 KT_00 B_1
        have C_sr := Lib.hid (C_s.out.below hB)
        have KT_sr := Lib.hid (KT_s.out.below hB KT_s.out.lt)
        have B_sr := Lib.hid (B_s.out.trans (hB.mono B_s.out.size))
        have Qsr := Lib.hid hB
        clear hB
        by_cases hlt : k < c.las.length
        · have hlt' : (k : Int) < (c.las.length : Int) := by omega
          obtain ⟨eg, eo, ec, ex, hx, hv, hg, d0, d1, d2⟩ := C_sr.out.las.at_ hlt
          injection hv with e1 e2 e3
          subst e1 e3
          clear e2
          have HX := Lib.hid hx
          clear hx
          have lT_0 : w.heap.size < wr.heap.size := KT_sr.out.lt
          have cT_0_0 : wr.cell? ⟨w.heap.size, 0, none⟩ = some (.slice pa c.ins.length qa) := KT_sr.out.cell 0
          have cT_1_0 : wr.cell? ⟨w.heap.size, 1, none⟩ = some (.slice pb c.outs.length qb) := KT_sr.out.cell 1
          have cT_2_0 : wr.cell? ⟨w.heap.size, 2, none⟩ = some (.slice (some ⟨eg, eo, none⟩) c.las.length ql) := KT_sr.out.cell 2
          have cT_3_0 : wr.cell? ⟨w.heap.size, 3, none⟩ = some (.slice pg c.gts.length qg) := KT_sr.out.cell 3
          go_wp2_with fail
          clear d0 d1 d2
          clear lT_0 cT_0_0 cT_1_0 cT_2_0 cT_3_0
          have a2 : Below wr.heap.size wr ((wr.alloc (.cells #[.string ex.name, .string ex.next, .int .i64 ex.init] 58)).alloc (.cells #[.string ex.name, .string ex.next] 9)) := (((Below.refl wr.heap.size wr).alloc (by first | exact Nat.le_refl _ | (simp only [World.size_alloc]; omega)) (.cells #[.string ex.name, .string ex.next, .int .i64 ex.init] 58)).alloc (by first | exact Nat.le_refl _ | (simp only [World.size_alloc]; omega)) (.cells #[.string ex.name, .string ex.next] 9))
          have L_new0 := ((Blk.new wr #[.string ex.name, .string ex.next, .int .i64 ex.init] 58).alloc (.cells #[.string ex.name, .string ex.next] 9))
          have KL_00 := Lib.hid L_new0
          clear L_new0
          have P_new0 := (Blk.new (wr.alloc (.cells #[.string ex.name, .string ex.next, .int .i64 ex.init] 58)) #[.string ex.name, .string ex.next] 9)
          rw [World.size_alloc] at P_new0
          have KP_00 := Lib.hid P_new0
          clear P_new0
          have C_1 := Lib.hid (C_sr.out.below a2)
          clear C_sr
          have Qs_1 := Lib.hid (Qsr.out.trans (a2.mono Qsr.out.size))
          clear Qsr
          have KT_1 := Lib.hid (KT_sr.out.below a2 KT_sr.out.lt)
          clear KT_sr
          have B_1 := Lib.hid (B_sr.out.trans (a2.mono B_sr.out.size))
          clear B_sr
          clear a2
          generalize ((wr.alloc (.cells #[.string ex.name, .string ex.next, .int .i64 ex.init] 58)).alloc (.cells #[.string ex.name, .string ex.next] 9)) = wr1 at C_1 Qs_1 KT_1 KL_00 KP_00 B_1 ⊢
          obtain ⟨o, ho⟩ : ∃ o, (laT ex).find? noN = o := ⟨_, rfl⟩
          cases o with
          | none =>
            have HO := Lib.hid ho
            have HNX := Lib.hid (take_next hall.out HX.out ho)
            clear ho hall
            refine (names_ok [ex.name, ex.next] _ _ (by simp) (two_blk KP_00.out) HO.out).mono ?_
            rintro e w' ⟨rfl, rfl⟩
            clear HO
            go_wp2
            refine ⟨⟨k + 1, by omega, by go_num, Qs_1.out, HNX⟩, ?_⟩
            simp [intOf]; omega
          | some t =>
            obtain rfl : t = s := by
              have := HN.out
              rw [flat_find hall.out HX.out ho, Option.some_or] at this
              exact Option.some.inj this
            have HO := Lib.hid ho
            clear ho hall
            refine (names_bad [ex.name, ex.next] _ t _ (by simp) (two_blk KP_00.out) HO.out).mono ?_
            rintro e w' ⟨rfl, rfl⟩
            unfold Wr
            go_wp2
            exact ⟨rfl, rfl, B_1.out⟩
        · have hge : (c.las.length : Int) ≤ (k : Int) := by omega
          have hn := HN.out
          rw [flat_none.2 (take_whole hall.out (show c.las.length ≤ k by omega)), Option.none_or] at hn
          clear hall HN
          have HN := Lib.hid hn
          clear hn
          have C_t := C_sr
          have Qs_t := Qsr
          have KT_t := KT_sr
          have B_t := B_sr
          have Qt_0 := Lib.hid (Below.refl wr.heap.size wr)
          have lT_0 : w.heap.size < wr.heap.size := KT_sr.out.lt
          have cT_0_0 : wr.cell? ⟨w.heap.size, 0, none⟩ = some (.slice pa c.ins.length qa) := KT_sr.out.cell 0
          have cT_1_0 : wr.cell? ⟨w.heap.size, 1, none⟩ = some (.slice pb c.outs.length qb) := KT_sr.out.cell 1
          have cT_2_0 : wr.cell? ⟨w.heap.size, 2, none⟩ = some (.slice pl c.las.length ql) := KT_sr.out.cell 2
          have cT_3_0 : wr.cell? ⟨w.heap.size, 3, none⟩ = some (.slice pg c.gts.length qg) := KT_sr.out.cell 3
          go_wp2
          clear lT_0 cT_0_0 cT_1_0 cT_2_0 cT_3_0
          go_loopw [29] (fun i wq => ∃ j : Nat, j ≤ c.gts.length ∧ i = .int .i64 (j : Int) ∧ Below wr.heap.size wr wq ∧ Hid (∀ g ∈ c.gts.take j, (gtT g).find? noN = none)) (fun i _ => c.gts.length - (intOf i).toNat)
          case atStart => exact ⟨0, by omega, rfl, Below.refl _ _, Lib.hid (by simp)⟩
          case round =>
            obtain ⟨j, hj, rfl, hB, hall⟩ := hrel
            clear C_sr Qsr Qt_0 KT_sr B_sr
            have C_tr := Lib.hid (C_t.out.below hB)
            have Qs_tr := Lib.hid (Qs_t.out.trans (hB.mono Qs_t.out.size))
            have KT_tr := Lib.hid (KT_t.out.below hB KT_t.out.lt)
            have B_tr := Lib.hid (B_t.out.trans (hB.mono B_t.out.size))
            have Qtr := Lib.hid hB
            clear hB
            by_cases hlt2 : j < c.gts.length
            · have hlt' : (j : Int) < (c.gts.length : Int) := by omega
              obtain ⟨eg, eo, ec, ex, er, hx, ha, hv, hg, d0, d1, d2, d3, d4⟩ := C_tr.out.gts.at_ hlt2
              have HA := Lib.hid ha.ins
              obtain ⟨pi, qi, ei⟩ := ha.ins.lst.slice
              obtain ⟨pr, qr, er'⟩ := ha.rows.lst.slice
              rw [ei] at d2 HA
              rw [er'] at d3
              clear ha ei er'
              injection hv with e1 e2 e3
              subst e1 e3
              clear e2
              have HX := Lib.hid hx
              clear hx
              have hil := (HG.out ex (List.mem_of_getElem? HX.out)).1
              have lT_0 : w.heap.size < wr.heap.size := KT_tr.out.lt
              have cT_0_0 : wr.cell? ⟨w.heap.size, 0, none⟩ = some (.slice pa c.ins.length qa) := KT_tr.out.cell 0
              have cT_1_0 : wr.cell? ⟨w.heap.size, 1, none⟩ = some (.slice pb c.outs.length qb) := KT_tr.out.cell 1
              have cT_2_0 : wr.cell? ⟨w.heap.size, 2, none⟩ = some (.slice pl c.las.length ql) := KT_tr.out.cell 2
              have cT_3_0 : wr.cell? ⟨w.heap.size, 3, none⟩ = some (.slice (some ⟨eg, eo, none⟩) c.gts.length qg) := KT_tr.out.cell 3
              go_wp2_with fail
              clear d0 d1 d2 d3 d4
              clear lT_0 cT_0_0 cT_1_0 cT_2_0 cT_3_0
              have a2 : Below wr.heap.size wr ((wr.alloc (.cells #[.string ex.name, .int .i64 ex.op, .slice pi ex.ins.length qi, .slice pr ex.rows.length qr, .bool ex.off] 39)).alloc (.cells #[.string ex.name] 9)) := (((Below.refl wr.heap.size wr).alloc (by first | exact Nat.le_refl _ | (simp only [World.size_alloc]; omega)) (.cells #[.string ex.name, .int .i64 ex.op, .slice pi ex.ins.length qi, .slice pr ex.rows.length qr, .bool ex.off] 39)).alloc (by first | exact Nat.le_refl _ | (simp only [World.size_alloc]; omega)) (.cells #[.string ex.name] 9))
              have G_new0 := ((Blk.new wr #[.string ex.name, .int .i64 ex.op, .slice pi ex.ins.length qi, .slice pr ex.rows.length qr, .bool ex.off] 39).alloc (.cells #[.string ex.name] 9))
              have KG_00 := Lib.hid G_new0
              clear G_new0
              have P_new0 := (Blk.new (wr.alloc (.cells #[.string ex.name, .int .i64 ex.op, .slice pi ex.ins.length qi, .slice pr ex.rows.length qr, .bool ex.off] 39)) #[.string ex.name] 9)
              rw [World.size_alloc] at P_new0
              have KP_00 := Lib.hid P_new0
              clear P_new0
              have C_1 := Lib.hid (C_tr.out.below a2)
              clear C_tr
              have Qs_1 := Lib.hid (Qs_tr.out.trans (a2.mono Qs_tr.out.size))
              clear Qs_tr
              have Qt_1 := Lib.hid (Qtr.out.trans (a2.mono Qtr.out.size))
              clear Qtr
              have I_1 := Lib.hid (HA.out.below a2)
              clear HA
              have KT_1 := Lib.hid (KT_tr.out.below a2 KT_tr.out.lt)
              clear KT_tr
              have B_1 := Lib.hid (B_tr.out.trans (a2.mono B_tr.out.size))
              clear B_tr
              clear a2
              generalize ((wr.alloc (.cells #[.string ex.name, .int .i64 ex.op, .slice pi ex.ins.length qi, .slice pr ex.rows.length qr, .bool ex.off] 39)).alloc (.cells #[.string ex.name] 9)) = wr1 at C_1 Qs_1 Qt_1 I_1 KT_1 KG_00 KP_00 B_1 ⊢
              obtain ⟨o, ho⟩ : ∃ o, [ex.name].find? noN = o := ⟨_, rfl⟩
              cases o with
              | some t =>
                obtain rfl : t = s := by
                  have := HN.out
                  rw [flat_find hall.out HX.out (by rw [gt_find, ho, Option.some_or])] at this
                  exact Option.some.inj this
                have HO := Lib.hid ho
                clear ho hall
                refine (names_bad [ex.name] _ t _ (by simp) (one_blk KP_00.out) HO.out).mono ?_
                rintro e w' ⟨rfl, rfl⟩
                unfold Wr
                go_wp2
                exact ⟨rfl, rfl, B_1.out⟩
              | none =>
                have HO := Lib.hid ho
                obtain ⟨o2, ho2⟩ : ∃ o, ex.ins.find? noN = o := ⟨_, rfl⟩
                cases o2 with
                | some t =>
                  obtain rfl : t = s := by
                    have := HN.out
                    rw [flat_find hall.out HX.out (by rw [gt_find, ho, Option.none_or]; exact ho2)] at this
                    exact Option.some.inj this
                  have HO2 := Lib.hid ho2
                  clear ho ho2 hall
                  refine (names_ok [ex.name] _ _ (by simp) (one_blk KP_00.out) HO.out).mono ?_
                  rintro e w' ⟨rfl, rfl⟩
                  have lG_1 : wr.heap.size < wr1.heap.size := KG_00.out.lt
                  have cG_0_1 : wr1.cell? ⟨wr.heap.size, 0, none⟩ = some (.string ex.name) := KG_00.out.cell 0
                  have cG_1_1 : wr1.cell? ⟨wr.heap.size, 1, none⟩ = some (.int .i64 ex.op) := KG_00.out.cell 1
                  have cG_2_1 : wr1.cell? ⟨wr.heap.size, 2, none⟩ = some (.slice pi ex.ins.length qi) := KG_00.out.cell 2
                  have cG_3_1 : wr1.cell? ⟨wr.heap.size, 3, none⟩ = some (.slice pr ex.rows.length qr) := KG_00.out.cell 3
                  have cG_4_1 : wr1.cell? ⟨wr.heap.size, 4, none⟩ = some (.bool ex.off) := KG_00.out.cell 4
                  go_wp2_with fail
                  clear lG_1 cG_0_1 cG_1_1 cG_2_1 cG_3_1 cG_4_1
                  refine (names_bad ex.ins _ t _ (by omega) I_1.out.lst HO2.out).mono ?_
                  rintro e w' ⟨rfl, rfl⟩
                  unfold Wr
                  go_wp2
                  exact ⟨rfl, rfl, B_1.out⟩
                | none =>
                  have HO2 := Lib.hid ho2
                  have HNX := Lib.hid (take_next hall.out HX.out (show (gtT ex).find? noN = none by rw [gt_find, ho, ho2]; rfl))
                  clear ho ho2 hall
                  refine (names_ok [ex.name] _ _ (by simp) (one_blk KP_00.out) HO.out).mono ?_
                  rintro e w' ⟨rfl, rfl⟩
                  have lG_1 : wr.heap.size < wr1.heap.size := KG_00.out.lt
                  have cG_0_1 : wr1.cell? ⟨wr.heap.size, 0, none⟩ = some (.string ex.name) := KG_00.out.cell 0
                  have cG_1_1 : wr1.cell? ⟨wr.heap.size, 1, none⟩ = some (.int .i64 ex.op) := KG_00.out.cell 1
                  have cG_2_1 : wr1.cell? ⟨wr.heap.size, 2, none⟩ = some (.slice pi ex.ins.length qi) := KG_00.out.cell 2
                  have cG_3_1 : wr1.cell? ⟨wr.heap.size, 3, none⟩ = some (.slice pr ex.rows.length qr) := KG_00.out.cell 3
                  have cG_4_1 : wr1.cell? ⟨wr.heap.size, 4, none⟩ = some (.bool ex.off) := KG_00.out.cell 4
                  go_wp2_with fail
                  clear lG_1 cG_0_1 cG_1_1 cG_2_1 cG_3_1 cG_4_1
                  refine (names_ok ex.ins _ _ (by omega) I_1.out.lst HO2.out).mono ?_
                  rintro e w' ⟨rfl, rfl⟩
                  clear HO HO2
                  go_wp2
                  refine ⟨⟨j + 1, by omega, by go_num, Qt_1.out, HNX⟩, ?_⟩
                  simp [intOf]; omega
            · exfalso
              have hn := HN.out
              rw [flat_none.2 (take_whole hall.out (show c.gts.length ≤ j by omega))] at hn
              cases hn
end Go.Proofs.YtfkmolbcgnkfdaaDoor

/- Is a text there twice: told by a panic. -/
namespace Go.Proofs.YtfkmolbcgnkfdaaDoor
open Go.RowKit Go.Maps
attribute [local go_sem] Oper.semAt_some
set_option maxRecDepth 100000
set_option maxHeartbeats 1000000

theorem law9 : Keyed Tryd.prog 9 := string_keyed Tryd.underlying9
theorem key9 (s : ByteArray) (h : s.size ≤ maxLen) : keyOf Tryd.prog 9 (.string s) = some (.string s.data.toList) := Go.WideMaps.keyOf_string_mk Tryd.underlying9 h
theorem zero91 (w : World) : (zeroValue 91).run Tryd.prog w = .ok (.agg #[]) w := by kernel_rfl
/-- the set of the first k texts -/
def stD (l : List ByteArray) : Nat → DataW Unit
  | 0 => .map []
  | k + 1 => match l[k]? with
    | some s => (stD l k).put (.string s.data.toList) (.agg [])
    | none => stD l k
theorem stD_map (l : List ByteArray) : ∀ k, IsMap (stD l k)
  | 0 => isMap_empty
  | k + 1 => by
    rw [stD]
    split
    · exact (stD_map l k).put _ _
    · exact stD_map l k
theorem stD_succ (l : List ByteArray) (k : Nat) (s : ByteArray) (h : l[k]? = some s) : stD l (k + 1) = (stD l k).put (.string s.data.toList) (.agg []) := by
  rw [stD, h]
theorem key_ne (s t : ByteArray) (h : s ≠ t) : (Lit.string s.data.toList) ≠ Lit.string t.data.toList := fun e => h (bytes_inj _ _ (by injection e))
theorem stD_has (l : List ByteArray) (s : ByteArray) : ∀ k, k ≤ l.length → Maps.has (stD l k) (.string s.data.toList) = usedB (l.take k) s
  | 0, _ => by simp [stD, usedB, Maps.has]
  | k + 1, hk => by
    obtain ⟨x, hx⟩ : ∃ x, l[k]? = some x := ⟨l[k], List.getElem?_eq_getElem (by omega)⟩
    rw [stD_succ l k x hx, List.take_add_one, hx]
    by_cases e : s = x
    · subst e
      rw [has_put_same (k := .string s.data.toList) (stD_map l k) (by trivial)]
      exact ((usedB_iff _ s).2 (by simp)).symm
    · rw [has_put_other (key_ne s x e), stD_has l s k (by omega)]
      unfold usedB
      rw [List.any_append]
      have : ([x].any fun y => y.data.toList == s.data.toList) = false := by
        rw [List.any_cons, List.any_nil, Bool.or_false, beq_eq_false_iff_ne]
        exact fun h => e (bytes_inj _ _ h.symm)
      simp only [Option.toList_some, this, Bool.or_false]
theorem twice_step (l : List ByteArray) (k : Nat) (x : ByteArray) (h : l[k]? = some x) : twiceF (l.take k) (l.drop k) = if usedB (l.take k) x = true then some x else twiceF (l.take (k + 1)) (l.drop (k + 1)) := by
  obtain ⟨h1, rfl⟩ := List.getElem?_eq_some_iff.1 h
  rw [List.drop_eq_getElem_cons h1, twiceF, List.take_add_one, List.getElem?_eq_getElem h1]
  rfl

theorem two_ok (l : List ByteArray) (v : Value) (w : World) (hl : l.length ≤ 1000000) (hz : ∀ x ∈ l, x.size ≤ maxLen) (ht : Lst stc w v l) (hn : twiceF [] l = none) :
    Calls Tryd.prog 47 #[v] w fun e w' => e = .returned (.tuple #[]) ∧ Below w.heap.size w w' := by
  have hmm := @run_makeMap Tryd.prog
  have HT := Lib.hid ht
  have HZ := Lib.hid hz
  have HTW := Lib.hid hn
  obtain ⟨b, c, rfl⟩ := ht.slice
  clear ht hz hn
  have HOM := Lib.hid (World.ownsMap_made (H := Unit) w Tryd.prog 9 unitElem)
  have HB0 := Lib.hid (below_one w (.map #[] 0))
  go_enter Tryd.func47, Tryd.ntmps47
  go_wp2
  go_loopw [10] (fun i wr => ∃ k : Nat, k ≤ l.length ∧ i = .int .i64 (k : Int) ∧ wr.ownsMap Tryd.prog 9 unitElem w.heap.size k (stD l k) ∧ Below w.heap.size w wr ∧ Hid (twiceF (l.take k) (l.drop k) = none)) (fun i _ => l.length - (intOf i).toNat)
  case atStart => exact ⟨0, by omega, rfl, HOM.out, HB0.out, HTW⟩
  case round =>
    obtain ⟨k, hk, rfl, hown, hB, htw⟩ := hrel
    have HB := Lib.hid hB
    clear HOM HB0
    by_cases hlt : k < l.length
    · have hlt' : (k : Int) < (l.length : Int) := by omega
      obtain ⟨g, o, cq, x, hx, hv, hg, hc⟩ := HT.out.at_ stc_len hlt
      injection hv with hb _ hcc
      subst hb hcc
      have d0 : wr.cell? ⟨g, o + k, none⟩ = some (.string x) := (hB.cell (p := ⟨g, o + k, none⟩) hg).trans (by have := hc 0 (by omega); simpa [stc] using this)
      have hkey := key9 x (HZ.out x (List.mem_of_getElem? hx))
      have HAS := Lib.hid (stD_has l x k hk)
      have STS := Lib.hid (stD_succ l k x hx)
      have TWN := Lib.hid (twice_step l k x hx)
      have hws := hown.lt
      have hal : Below wr.heap.size wr (wr.alloc (.cells #[] 91)) := below_one _ _
      have HAL := Lib.hid hal
      have hown2 := hown.alloc (.cells #[] 91)
      clear hc hx hB hal
      cases hu : usedB (l.take k) x
      · rw [hu] at HAS TWN
        have HN := Lib.hid (TWN.out.symm.trans htw.out)
        clear TWN hu htw
        go_wp2_with (first | (at_lookup; refine wpList_lookup_own_unit (H := Unit) _ rfl _ _ 89 rfl 9 91 law9 Tryd.underlying89 (zero91 _) _ k _ rfl hown _ _ rfl hkey ?_; rw [HAS.out]) | (at_mapUpdate; refine wpList_mapUpdate_own (H := Unit) _ rfl _ _ _ 89 rfl 9 91 law9 Tryd.underlying89 unitElem w.heap.size k _ rfl hown2 (by unfold maxLen; omega) _ _ _ rfl rfl hkey (.agg []) [] unitElem_mk ?_; intro w1 hown1 hgrow1))
        have HB5 := Lib.hid ((HB.out.trans (HAL.out.mono HB.out.size)).grown hgrow1 (by have := HB.out.size; simp; omega) (fun j e => by cases e; omega))
        refine ⟨⟨k + 1, by omega, by go_num, ?_, HB5.out, HN⟩, ?_⟩
        · rw [STS.out]; exact hown1
        · simp [intOf]; omega
      · rw [hu] at HAS TWN
        exfalso
        have := TWN.out.symm.trans htw.out
        cases this
    · have hge : (l.length : Int) ≤ (k : Int) := by omega
      clear htw
      go_wp2
      go_end0
      exact ⟨rfl, HB.out⟩

theorem two_bad (l : List ByteArray) (v : Value) (s : ByteArray) (w : World) (hl : l.length ≤ 1000000) (hz : ∀ x ∈ l, x.size ≤ maxLen) (ht : Lst stc w v l) (hn : twiceF [] l = some s) :
    Calls Tryd.prog 47 #[v] w fun e w' => e = Wr 5 s ∧ Below w.heap.size w w' := by
  have hmm := @run_makeMap Tryd.prog
  have HT := Lib.hid ht
  have HZ := Lib.hid hz
  have HTW := Lib.hid hn
  obtain ⟨b, c, rfl⟩ := ht.slice
  clear ht hz hn
  have HOM := Lib.hid (World.ownsMap_made (H := Unit) w Tryd.prog 9 unitElem)
  have HB0 := Lib.hid (below_one w (.map #[] 0))
  go_enter Tryd.func47, Tryd.ntmps47
  go_wp2
  go_loopw [10] (fun i wr => ∃ k : Nat, k ≤ l.length ∧ i = .int .i64 (k : Int) ∧ wr.ownsMap Tryd.prog 9 unitElem w.heap.size k (stD l k) ∧ Below w.heap.size w wr ∧ Hid (twiceF (l.take k) (l.drop k) = some s)) (fun i _ => l.length - (intOf i).toNat)
  case atStart => exact ⟨0, by omega, rfl, HOM.out, HB0.out, HTW⟩
  case round =>
    obtain ⟨k, hk, rfl, hown, hB, htw⟩ := hrel
    have HB := Lib.hid hB
    clear HOM HB0
    by_cases hlt : k < l.length
    · have hlt' : (k : Int) < (l.length : Int) := by omega
      obtain ⟨g, o, cq, x, hx, hv, hg, hc⟩ := HT.out.at_ stc_len hlt
      injection hv with hb _ hcc
      subst hb hcc
      have d0 : wr.cell? ⟨g, o + k, none⟩ = some (.string x) := (hB.cell (p := ⟨g, o + k, none⟩) hg).trans (by have := hc 0 (by omega); simpa [stc] using this)
      have hkey := key9 x (HZ.out x (List.mem_of_getElem? hx))
      have HAS := Lib.hid (stD_has l x k hk)
      have STS := Lib.hid (stD_succ l k x hx)
      have TWN := Lib.hid (twice_step l k x hx)
      have hws := hown.lt
      have hal : Below wr.heap.size wr (wr.alloc (.cells #[] 91)) := below_one _ _
      have HAL := Lib.hid hal
      have hown2 := hown.alloc (.cells #[] 91)
      clear hc hx hB hal
      cases hu : usedB (l.take k) x
      · rw [hu] at HAS TWN
        have HN := Lib.hid (TWN.out.symm.trans htw.out)
        clear TWN hu htw
        go_wp2_with (first | (at_lookup; refine wpList_lookup_own_unit (H := Unit) _ rfl _ _ 89 rfl 9 91 law9 Tryd.underlying89 (zero91 _) _ k _ rfl hown _ _ rfl hkey ?_; rw [HAS.out]) | (at_mapUpdate; refine wpList_mapUpdate_own (H := Unit) _ rfl _ _ _ 89 rfl 9 91 law9 Tryd.underlying89 unitElem w.heap.size k _ rfl hown2 (by unfold maxLen; omega) _ _ _ rfl rfl hkey (.agg []) [] unitElem_mk ?_; intro w1 hown1 hgrow1))
        have HB5 := Lib.hid ((HB.out.trans (HAL.out.mono HB.out.size)).grown hgrow1 (by have := HB.out.size; simp; omega) (fun j e => by cases e; omega))
        refine ⟨⟨k + 1, by omega, by go_num, ?_, HB5.out, HN⟩, ?_⟩
        · rw [STS.out]; exact hown1
        · simp [intOf]; omega
      · rw [hu] at HAS TWN
        obtain rfl : x = s := Option.some.inj (TWN.out.symm.trans htw.out)
        have HB5 := Lib.hid (HB.out.trans (HAL.out.mono HB.out.size))
        clear TWN hu htw
        go_wp2_with (first | (at_lookup; refine wpList_lookup_own_unit (H := Unit) _ rfl _ _ 89 rfl 9 91 law9 Tryd.underlying89 (zero91 _) _ k _ rfl hown _ _ rfl hkey ?_; rw [HAS.out]))
        exact ⟨rfl, rfl, HB5.out⟩
    · exfalso
      have := htw.out
      rw [List.drop_of_length_le (by omega)] at this
      cases this
end Go.Proofs.YtfkmolbcgnkfdaaDoor

/- Are latches and gates as they may be. -/
namespace Go.Proofs.YtfkmolbcgnkfdaaDoor
open Go.RowKit
attribute [local go_sem] Oper.semAt_some
set_option maxRecDepth 100000
set_option maxHeartbeats 1000000
/-- no sign row is endless -/
def FewZ (l : List Gt) : Prop := ∀ g ∈ l, ∀ s ∈ g.rows, s.size ≤ 100000
def noL (l : La) : Bool := !initB l
def noG (g : Gt) : Bool := !gateB g
theorem gate_ex (g : Gt) (vi vr : Value) (q : Bool) (w : World) (hi : Inn w vi g.ins) (hr : Inn w vr g.rows) (l : g.ins.length ≤ 100000 ∧ g.rows.length ≤ 100000) (hz : ∀ s ∈ g.rows, s.size ≤ 100000) (hw : (Lit.int .i64 g.op).wf = true) (hq : gateB g = q) :
    Calls Tryd.prog 27 #[.agg #[.string g.name, .int .i64 g.op, vi, vr, .bool g.off]] w fun e w' => e = .returned (.bool q) ∧ Below w.heap.size w w' := by
  subst hq
  exact gate_any g vi vr w hi hr l.1 l.2 hz hw

def partsG (c : Ci) : Option (Int × ByteArray) := match c.gts.find? noG with
  | some g => some (1, g.name)
  | none => none
def partsF (c : Ci) : Option (Int × ByteArray) := match c.las.find? noL with
  | some l => some (1, l.name)
  | none => partsG c

theorem parts_ok (c : Ci) (a b l g : Value) (w : World) (h : Cir w a b l g c) (hf : Few c) (hg : FewG c.gts) (hz : FewZ c.gts) (hl : c.las.find? noL = none) (hgt : c.gts.find? noG = none) :
    Calls Tryd.prog 48 #[.agg #[a, b, l, g]] w fun f w' => f = .returned (.tuple #[]) ∧ Below w.heap.size w w' := by
  have H := Lib.hid h
  obtain ⟨pa, qa, pb, qb, pl, ql, pg, qg, rfl, rfl, rfl, rfl⟩ := h.slices
  have hf1 := hf.ins
  have hf2 := hf.outs
  have hf3 := hf.las
  have hf4 := hf.gts
  have HG := Lib.hid hg
  have HZ := Lib.hid hz
  clear h hf hg hz
  have H3 := Lib.hid (List.find?_eq_none.1 hl)
  have H4 := Lib.hid (List.find?_eq_none.1 hgt)
  clear hl hgt
  go_enter Tryd.func48, Tryd.ntmps48
  have a1 : Below w.heap.size w (w.alloc (.cells #[.slice pa c.ins.length qa, .slice pb c.outs.length qb, .slice pl c.las.length ql, .slice pg c.gts.length qg] 26)) := ((Below.refl w.heap.size w).alloc (by first | exact Nat.le_refl _ | (simp only [World.size_alloc]; omega)) (.cells #[.slice pa c.ins.length qa, .slice pb c.outs.length qb, .slice pl c.las.length ql, .slice pg c.gts.length qg] 26))
  have T_new0 := (Blk.new w #[.slice pa c.ins.length qa, .slice pb c.outs.length qb, .slice pl c.las.length ql, .slice pg c.gts.length qg] 26)
  have KT_00 := Lib.hid T_new0
  clear T_new0
  have C_1 := Lib.hid (H.out.below a1)
  clear H
  have B_1 := Lib.hid a1
  clear a1
  go_wp2
  generalize (w.alloc (.cells #[.slice pa c.ins.length qa, .slice pb c.outs.length qb, .slice pl c.las.length ql, .slice pg c.gts.length qg] 26)) = w1 at * 
  have C_s := C_1
  have KT_s := KT_00
  have B_s := B_1
  have Qs_0 := Lib.hid (Below.refl w1.heap.size w1)
  go_loopw [9] (fun i wr => ∃ k : Nat, k ≤ c.las.length ∧ i = .int .i64 (k : Int) ∧ Below w1.heap.size w1 wr) (fun i _ => c.las.length - (intOf i).toNat)
  case atStart => exact ⟨0, by omega, rfl, Below.refl _ _⟩
  case round =>
    obtain ⟨k, hk, rfl, hB⟩ := hrel
    clear C_1 Qs_0 KT_00 B_1
    have C_sr := Lib.hid (C_s.out.below hB)
    have KT_sr := Lib.hid (KT_s.out.below hB KT_s.out.lt)
    have B_sr := Lib.hid (B_s.out.trans (hB.mono B_s.out.size))
    have Qsr := Lib.hid hB
    clear hB
    by_cases hlt : k < c.las.length
    · have hlt' : (k : Int) < (c.las.length : Int) := by omega
      obtain ⟨eg, eo, ec, ex, hx, hv, hg, d0, d1, d2⟩ := C_sr.out.las.at_ hlt
      injection hv with e1 e2 e3
      subst e1 e3
      clear e2
      have HX := Lib.hid hx
      clear hx
      have B5 := Lib.hid (chain2 B_sr.out (below_one wr (.cells #[.string ex.name, .string ex.next, .int .i64 ex.init] 58)))
      have Q5 := Lib.hid (chain2 Qsr.out (below_one wr (.cells #[.string ex.name, .string ex.next, .int .i64 ex.init] 58)))
      have hi0 : initB ex = true := by have := H3.out ex (List.mem_of_getElem? HX.out); simpa [noL] using this
      unfold initB at hi0
      rw [Bool.and_eq_true, decide_eq_true_eq, decide_eq_true_eq] at hi0
      have i1 : decide (ex.init < (0 : Int)) = false := decide_eq_false (by omega)
      have i2 : decide ((2 : Int) < ex.init) = false := decide_eq_false (by omega)
      clear hi0
      have lT_0 : w.heap.size < wr.heap.size := KT_sr.out.lt
      have cT_0_0 : wr.cell? ⟨w.heap.size, 0, none⟩ = some (.slice pa c.ins.length qa) := KT_sr.out.cell 0
      have cT_1_0 : wr.cell? ⟨w.heap.size, 1, none⟩ = some (.slice pb c.outs.length qb) := KT_sr.out.cell 1
      have cT_2_0 : wr.cell? ⟨w.heap.size, 2, none⟩ = some (.slice (some ⟨eg, eo, none⟩) c.las.length ql) := KT_sr.out.cell 2
      have cT_3_0 : wr.cell? ⟨w.heap.size, 3, none⟩ = some (.slice pg c.gts.length qg) := KT_sr.out.cell 3
      go_wp2
      refine ⟨⟨k + 1, by omega, by go_num, Q5.out⟩, ?_⟩
      simp [intOf]; omega
    · have hge : (c.las.length : Int) ≤ (k : Int) := by omega
      have C_t := C_sr
      have Qs_t := Qsr
      have KT_t := KT_sr
      have B_t := B_sr
      have Qt_0 := Lib.hid (Below.refl wr.heap.size wr)
      have lT_0 : w.heap.size < wr.heap.size := KT_sr.out.lt
      have cT_0_0 : wr.cell? ⟨w.heap.size, 0, none⟩ = some (.slice pa c.ins.length qa) := KT_sr.out.cell 0
      have cT_1_0 : wr.cell? ⟨w.heap.size, 1, none⟩ = some (.slice pb c.outs.length qb) := KT_sr.out.cell 1
      have cT_2_0 : wr.cell? ⟨w.heap.size, 2, none⟩ = some (.slice pl c.las.length ql) := KT_sr.out.cell 2
      have cT_3_0 : wr.cell? ⟨w.heap.size, 3, none⟩ = some (.slice pg c.gts.length qg) := KT_sr.out.cell 3
      go_wp2
      clear lT_0 cT_0_0 cT_1_0 cT_2_0 cT_3_0
      go_loopw [29] (fun i wq => ∃ j : Nat, j ≤ c.gts.length ∧ i = .int .i64 (j : Int) ∧ Below wr.heap.size wr wq) (fun i _ => c.gts.length - (intOf i).toNat)
      case atStart => exact ⟨0, by omega, rfl, Below.refl _ _⟩
      case round =>
        obtain ⟨j, hj, rfl, hB⟩ := hrel
        clear C_sr Qsr Qt_0 KT_sr B_sr
        have C_tr := Lib.hid (C_t.out.below hB)
        have Qs_tr := Lib.hid (Qs_t.out.trans (hB.mono Qs_t.out.size))
        have KT_tr := Lib.hid (KT_t.out.below hB KT_t.out.lt)
        have B_tr := Lib.hid (B_t.out.trans (hB.mono B_t.out.size))
        have Qtr := Lib.hid hB
        clear hB
        by_cases hlt2 : j < c.gts.length
        · have hlt' : (j : Int) < (c.gts.length : Int) := by omega
          obtain ⟨eg, eo, ec, ex, er, hx, ha, hv, hg, d0, d1, d2, d3, d4⟩ := C_tr.out.gts.at_ hlt2
          have HA := Lib.hid ha.ins
          have HR := Lib.hid ha.rows
          have HW := Lib.hid ha.wf
          obtain ⟨pi, qi, ei⟩ := ha.ins.lst.slice
          obtain ⟨pr, qr, er'⟩ := ha.rows.lst.slice
          rw [ei] at d2 HA
          rw [er'] at d3 HR
          clear ha ei er'
          injection hv with e1 e2 e3
          subst e1 e3
          clear e2
          have HX := Lib.hid hx
          clear hx
          have lT_0 : w.heap.size < wr.heap.size := KT_tr.out.lt
          have cT_0_0 : wr.cell? ⟨w.heap.size, 0, none⟩ = some (.slice pa c.ins.length qa) := KT_tr.out.cell 0
          have cT_1_0 : wr.cell? ⟨w.heap.size, 1, none⟩ = some (.slice pb c.outs.length qb) := KT_tr.out.cell 1
          have cT_2_0 : wr.cell? ⟨w.heap.size, 2, none⟩ = some (.slice pl c.las.length ql) := KT_tr.out.cell 2
          have cT_3_0 : wr.cell? ⟨w.heap.size, 3, none⟩ = some (.slice (some ⟨eg, eo, none⟩) c.gts.length qg) := KT_tr.out.cell 3
          go_wp2_with fail
          clear d0 d1 d2 d3 d4
          clear lT_0 cT_0_0 cT_1_0 cT_2_0 cT_3_0
          have a2 : Below wr.heap.size wr (wr.alloc (.cells #[.string ex.name, .int .i64 ex.op, .slice pi ex.ins.length qi, .slice pr ex.rows.length qr, .bool ex.off] 39)) := ((Below.refl wr.heap.size wr).alloc (by first | exact Nat.le_refl _ | (simp only [World.size_alloc]; omega)) (.cells #[.string ex.name, .int .i64 ex.op, .slice pi ex.ins.length qi, .slice pr ex.rows.length qr, .bool ex.off] 39))
          have G_new0 := (Blk.new wr #[.string ex.name, .int .i64 ex.op, .slice pi ex.ins.length qi, .slice pr ex.rows.length qr, .bool ex.off] 39)
          have KG_00 := Lib.hid G_new0
          clear G_new0
          have C_1 := Lib.hid (C_tr.out.below a2)
          clear C_tr
          have Qs_1 := Lib.hid (Qs_tr.out.trans (a2.mono Qs_tr.out.size))
          clear Qs_tr
          have Qt_1 := Lib.hid (Qtr.out.trans (a2.mono Qtr.out.size))
          clear Qtr
          have I_1 := Lib.hid (HA.out.below a2)
          clear HA
          have R_1 := Lib.hid (HR.out.below a2)
          clear HR
          have KT_1 := Lib.hid (KT_tr.out.below a2 KT_tr.out.lt)
          clear KT_tr
          have B_1 := Lib.hid (B_tr.out.trans (a2.mono B_tr.out.size))
          clear B_tr
          clear a2
          generalize (wr.alloc (.cells #[.string ex.name, .int .i64 ex.op, .slice pi ex.ins.length qi, .slice pr ex.rows.length qr, .bool ex.off] 39)) = wr1 at C_1 Qs_1 Qt_1 I_1 R_1 KT_1 KG_00 B_1 ⊢
          have HQ := Lib.hid (show gateB ex = true by have := H4.out ex (List.mem_of_getElem? HX.out); simpa [noG] using this)
          refine (gate_ex ex _ _ true _ I_1.out R_1.out (HG.out ex (List.mem_of_getElem? HX.out)) (HZ.out ex (List.mem_of_getElem? HX.out)) HW.out HQ.out).mono ?_
          rintro e wr2 ⟨rfl, b2⟩
          have C_2 := Lib.hid (C_1.out.below b2)
          clear C_1
          have Qs_2 := Lib.hid (Qs_1.out.trans (b2.mono Qs_1.out.size))
          clear Qs_1
          have Qt_2 := Lib.hid (Qt_1.out.trans (b2.mono Qt_1.out.size))
          clear Qt_1
          have I_2 := Lib.hid (I_1.out.below b2)
          clear I_1
          have R_2 := Lib.hid (R_1.out.below b2)
          clear R_1
          have KT_2 := Lib.hid (KT_1.out.below b2 KT_1.out.lt)
          clear KT_1
          have KG_2 := Lib.hid (KG_00.out.below b2 KG_00.out.lt)
          clear KG_00
          have B_2 := Lib.hid (B_1.out.trans (b2.mono B_1.out.size))
          clear B_1
          clear b2
          have lG_2 : wr.heap.size < wr2.heap.size := KG_2.out.lt
          have cG_0_2 : wr2.cell? ⟨wr.heap.size, 0, none⟩ = some (.string ex.name) := KG_2.out.cell 0
          have cG_1_2 : wr2.cell? ⟨wr.heap.size, 1, none⟩ = some (.int .i64 ex.op) := KG_2.out.cell 1
          have cG_2_2 : wr2.cell? ⟨wr.heap.size, 2, none⟩ = some (.slice pi ex.ins.length qi) := KG_2.out.cell 2
          have cG_3_2 : wr2.cell? ⟨wr.heap.size, 3, none⟩ = some (.slice pr ex.rows.length qr) := KG_2.out.cell 3
          have cG_4_2 : wr2.cell? ⟨wr.heap.size, 4, none⟩ = some (.bool ex.off) := KG_2.out.cell 4
          go_wp2
          refine ⟨⟨j + 1, by omega, by go_num, Qt_2.out⟩, ?_⟩
          simp [intOf]; omega
        · have hge2 : (c.gts.length : Int) ≤ (j : Int) := by omega
          go_wp2
          go_end0
          exact ⟨rfl, B_tr.out⟩

theorem parts_bad (c : Ci) (a b l g : Value) (e : Int) (s : ByteArray) (w : World) (h : Cir w a b l g c) (hf : Few c) (hg : FewG c.gts) (hz : FewZ c.gts) (hn : partsF c = some (e, s)) :
    Calls Tryd.prog 48 #[.agg #[a, b, l, g]] w fun f w' => f = Wr e s ∧ Below w.heap.size w w' := by
  have H := Lib.hid h
  obtain ⟨pa, qa, pb, qb, pl, ql, pg, qg, rfl, rfl, rfl, rfl⟩ := h.slices
  have hf1 := hf.ins
  have hf2 := hf.outs
  have hf3 := hf.las
  have hf4 := hf.gts
  have HG := Lib.hid hg
  have HZ := Lib.hid hz
  clear h hf hg hz
  have HN := Lib.hid hn
  clear hn
  go_enter Tryd.func48, Tryd.ntmps48
  have a1 : Below w.heap.size w (w.alloc (.cells #[.slice pa c.ins.length qa, .slice pb c.outs.length qb, .slice pl c.las.length ql, .slice pg c.gts.length qg] 26)) := ((Below.refl w.heap.size w).alloc (by first | exact Nat.le_refl _ | (simp only [World.size_alloc]; omega)) (.cells #[.slice pa c.ins.length qa, .slice pb c.outs.length qb, .slice pl c.las.length ql, .slice pg c.gts.length qg] 26))
  have T_new0 := (Blk.new w #[.slice pa c.ins.length qa, .slice pb c.outs.length qb, .slice pl c.las.length ql, .slice pg c.gts.length qg] 26)
  have KT_00 := Lib.hid T_new0
  clear T_new0
  have C_1 := Lib.hid (H.out.below a1)
  clear H
  have B_1 := Lib.hid a1
  clear a1
  go_wp2
  generalize (w.alloc (.cells #[.slice pa c.ins.length qa, .slice pb c.outs.length qb, .slice pl c.las.length ql, .slice pg c.gts.length qg] 26)) = w1 at * 
  have C_s := C_1
  have KT_s := KT_00
  have B_s := B_1
  have Qs_0 := Lib.hid (Below.refl w1.heap.size w1)
  go_loopw [9] (fun i wr => ∃ k : Nat, k ≤ c.las.length ∧ i = .int .i64 (k : Int) ∧ Below w1.heap.size w1 wr ∧ Hid (∀ g ∈ c.las.take k, noL g = false)) (fun i _ => c.las.length - (intOf i).toNat)
  case atStart => exact ⟨0, by omega, rfl, Below.refl _ _, Lib.hid (by simp)⟩
  case round =>
    obtain ⟨k, hk, rfl, hB, hall⟩ := hrel
    clear C_1 Qs_0 KT_00 B_1
    have C_sr := Lib.hid (C_s.out.below hB)
    have KT_sr := Lib.hid (KT_s.out.below hB KT_s.out.lt)
    have B_sr := Lib.hid (B_s.out.trans (hB.mono B_s.out.size))
    have Qsr := Lib.hid hB
    clear hB
    by_cases hlt : k < c.las.length
    · have hlt' : (k : Int) < (c.las.length : Int) := by omega
      obtain ⟨eg, eo, ec, ex, hx, hv, hg, d0, d1, d2⟩ := C_sr.out.las.at_ hlt
      injection hv with e1 e2 e3
      subst e1 e3
      clear e2
      have HX := Lib.hid hx
      clear hx
      have B5 := Lib.hid (chain2 B_sr.out (below_one wr (.cells #[.string ex.name, .string ex.next, .int .i64 ex.init] 58)))
      have Q5 := Lib.hid (chain2 Qsr.out (below_one wr (.cells #[.string ex.name, .string ex.next, .int .i64 ex.init] 58)))
      by_cases i1 : ex.init < (0 : Int)
      · obtain hp : s = ex.name ∧ e = 1 := by
          have := HN.out
          unfold partsF at this
          rw [find_at hall.out HX.out (show noL ex = true by unfold noL initB; simp; omega)] at this
          have h2 := Option.some.inj this
          exact ⟨(congrArg Prod.snd h2).symm, (congrArg Prod.fst h2).symm⟩
        obtain ⟨rfl, rfl⟩ := hp
        clear hall HN
        have lT_0 : w.heap.size < wr.heap.size := KT_sr.out.lt
        have cT_0_0 : wr.cell? ⟨w.heap.size, 0, none⟩ = some (.slice pa c.ins.length qa) := KT_sr.out.cell 0
        have cT_1_0 : wr.cell? ⟨w.heap.size, 1, none⟩ = some (.slice pb c.outs.length qb) := KT_sr.out.cell 1
        have cT_2_0 : wr.cell? ⟨w.heap.size, 2, none⟩ = some (.slice (some ⟨eg, eo, none⟩) c.las.length ql) := KT_sr.out.cell 2
        have cT_3_0 : wr.cell? ⟨w.heap.size, 3, none⟩ = some (.slice pg c.gts.length qg) := KT_sr.out.cell 3
        go_wp2
        exact ⟨rfl, rfl, B5.out⟩
      · have i1' : decide (ex.init < (0 : Int)) = false := decide_eq_false i1
        by_cases i2 : (2 : Int) < ex.init
        · obtain hp : s = ex.name ∧ e = 1 := by
            have := HN.out
            unfold partsF at this
            rw [find_at hall.out HX.out (show noL ex = true by unfold noL initB; simp; omega)] at this
            have h2 := Option.some.inj this
            exact ⟨(congrArg Prod.snd h2).symm, (congrArg Prod.fst h2).symm⟩
          obtain ⟨rfl, rfl⟩ := hp
          clear hall HN
          have lT_0 : w.heap.size < wr.heap.size := KT_sr.out.lt
          have cT_0_0 : wr.cell? ⟨w.heap.size, 0, none⟩ = some (.slice pa c.ins.length qa) := KT_sr.out.cell 0
          have cT_1_0 : wr.cell? ⟨w.heap.size, 1, none⟩ = some (.slice pb c.outs.length qb) := KT_sr.out.cell 1
          have cT_2_0 : wr.cell? ⟨w.heap.size, 2, none⟩ = some (.slice (some ⟨eg, eo, none⟩) c.las.length ql) := KT_sr.out.cell 2
          have cT_3_0 : wr.cell? ⟨w.heap.size, 3, none⟩ = some (.slice pg c.gts.length qg) := KT_sr.out.cell 3
          go_wp2
          exact ⟨rfl, rfl, B5.out⟩
        · have i2' : decide ((2 : Int) < ex.init) = false := decide_eq_false i2
          have HNX := Lib.hid (take_next hall.out HX.out (show noL ex = false by unfold noL initB; simp; omega))
          clear hall
          have lT_0 : w.heap.size < wr.heap.size := KT_sr.out.lt
          have cT_0_0 : wr.cell? ⟨w.heap.size, 0, none⟩ = some (.slice pa c.ins.length qa) := KT_sr.out.cell 0
          have cT_1_0 : wr.cell? ⟨w.heap.size, 1, none⟩ = some (.slice pb c.outs.length qb) := KT_sr.out.cell 1
          have cT_2_0 : wr.cell? ⟨w.heap.size, 2, none⟩ = some (.slice (some ⟨eg, eo, none⟩) c.las.length ql) := KT_sr.out.cell 2
          have cT_3_0 : wr.cell? ⟨w.heap.size, 3, none⟩ = some (.slice pg c.gts.length qg) := KT_sr.out.cell 3
          go_wp2
          refine ⟨⟨k + 1, by omega, by go_num, Q5.out, HNX⟩, ?_⟩
          simp [intOf]; omega
    · have hge : (c.las.length : Int) ≤ (k : Int) := by omega
      have hn := HN.out
      unfold partsF at hn
      rw [find_none (take_whole hall.out (show c.las.length ≤ k by omega))] at hn
      change partsG c = _ at hn
      clear hall HN
      have HN := Lib.hid hn
      clear hn
      have C_t := C_sr
      have Qs_t := Qsr
      have KT_t := KT_sr
      have B_t := B_sr
      have Qt_0 := Lib.hid (Below.refl wr.heap.size wr)
      have lT_0 : w.heap.size < wr.heap.size := KT_sr.out.lt
      have cT_0_0 : wr.cell? ⟨w.heap.size, 0, none⟩ = some (.slice pa c.ins.length qa) := KT_sr.out.cell 0
      have cT_1_0 : wr.cell? ⟨w.heap.size, 1, none⟩ = some (.slice pb c.outs.length qb) := KT_sr.out.cell 1
      have cT_2_0 : wr.cell? ⟨w.heap.size, 2, none⟩ = some (.slice pl c.las.length ql) := KT_sr.out.cell 2
      have cT_3_0 : wr.cell? ⟨w.heap.size, 3, none⟩ = some (.slice pg c.gts.length qg) := KT_sr.out.cell 3
      go_wp2
      clear lT_0 cT_0_0 cT_1_0 cT_2_0 cT_3_0
      go_loopw [29] (fun i wq => ∃ j : Nat, j ≤ c.gts.length ∧ i = .int .i64 (j : Int) ∧ Below wr.heap.size wr wq ∧ Hid (∀ g ∈ c.gts.take j, noG g = false)) (fun i _ => c.gts.length - (intOf i).toNat)
      case atStart => exact ⟨0, by omega, rfl, Below.refl _ _, Lib.hid (by simp)⟩
      case round =>
        obtain ⟨j, hj, rfl, hB, hall⟩ := hrel
        clear C_sr Qsr Qt_0 KT_sr B_sr
        have C_tr := Lib.hid (C_t.out.below hB)
        have Qs_tr := Lib.hid (Qs_t.out.trans (hB.mono Qs_t.out.size))
        have KT_tr := Lib.hid (KT_t.out.below hB KT_t.out.lt)
        have B_tr := Lib.hid (B_t.out.trans (hB.mono B_t.out.size))
        have Qtr := Lib.hid hB
        clear hB
        by_cases hlt2 : j < c.gts.length
        · have hlt' : (j : Int) < (c.gts.length : Int) := by omega
          obtain ⟨eg, eo, ec, ex, er, hx, ha, hv, hg, d0, d1, d2, d3, d4⟩ := C_tr.out.gts.at_ hlt2
          have HA := Lib.hid ha.ins
          have HR := Lib.hid ha.rows
          have HW := Lib.hid ha.wf
          obtain ⟨pi, qi, ei⟩ := ha.ins.lst.slice
          obtain ⟨pr, qr, er'⟩ := ha.rows.lst.slice
          rw [ei] at d2 HA
          rw [er'] at d3 HR
          clear ha ei er'
          injection hv with e1 e2 e3
          subst e1 e3
          clear e2
          have HX := Lib.hid hx
          clear hx
          have lT_0 : w.heap.size < wr.heap.size := KT_tr.out.lt
          have cT_0_0 : wr.cell? ⟨w.heap.size, 0, none⟩ = some (.slice pa c.ins.length qa) := KT_tr.out.cell 0
          have cT_1_0 : wr.cell? ⟨w.heap.size, 1, none⟩ = some (.slice pb c.outs.length qb) := KT_tr.out.cell 1
          have cT_2_0 : wr.cell? ⟨w.heap.size, 2, none⟩ = some (.slice pl c.las.length ql) := KT_tr.out.cell 2
          have cT_3_0 : wr.cell? ⟨w.heap.size, 3, none⟩ = some (.slice (some ⟨eg, eo, none⟩) c.gts.length qg) := KT_tr.out.cell 3
          go_wp2_with fail
          clear d0 d1 d2 d3 d4
          clear lT_0 cT_0_0 cT_1_0 cT_2_0 cT_3_0
          have a2 : Below wr.heap.size wr (wr.alloc (.cells #[.string ex.name, .int .i64 ex.op, .slice pi ex.ins.length qi, .slice pr ex.rows.length qr, .bool ex.off] 39)) := ((Below.refl wr.heap.size wr).alloc (by first | exact Nat.le_refl _ | (simp only [World.size_alloc]; omega)) (.cells #[.string ex.name, .int .i64 ex.op, .slice pi ex.ins.length qi, .slice pr ex.rows.length qr, .bool ex.off] 39))
          have G_new0 := (Blk.new wr #[.string ex.name, .int .i64 ex.op, .slice pi ex.ins.length qi, .slice pr ex.rows.length qr, .bool ex.off] 39)
          have KG_00 := Lib.hid G_new0
          clear G_new0
          have C_1 := Lib.hid (C_tr.out.below a2)
          clear C_tr
          have Qs_1 := Lib.hid (Qs_tr.out.trans (a2.mono Qs_tr.out.size))
          clear Qs_tr
          have Qt_1 := Lib.hid (Qtr.out.trans (a2.mono Qtr.out.size))
          clear Qtr
          have I_1 := Lib.hid (HA.out.below a2)
          clear HA
          have R_1 := Lib.hid (HR.out.below a2)
          clear HR
          have KT_1 := Lib.hid (KT_tr.out.below a2 KT_tr.out.lt)
          clear KT_tr
          have B_1 := Lib.hid (B_tr.out.trans (a2.mono B_tr.out.size))
          clear B_tr
          clear a2
          generalize (wr.alloc (.cells #[.string ex.name, .int .i64 ex.op, .slice pi ex.ins.length qi, .slice pr ex.rows.length qr, .bool ex.off] 39)) = wr1 at C_1 Qs_1 Qt_1 I_1 R_1 KT_1 KG_00 B_1 ⊢
          obtain ⟨q, hq⟩ : ∃ q, gateB ex = q := ⟨_, rfl⟩
          have HQ := Lib.hid hq
          clear hq
          cases q
          · obtain hp : s = ex.name ∧ e = 1 := by
              have := HN.out
              unfold partsG at this
              rw [find_at hall.out HX.out (show noG ex = true by unfold noG; rw [HQ.out]; rfl)] at this
              have h2 := Option.some.inj this
              exact ⟨(congrArg Prod.snd h2).symm, (congrArg Prod.fst h2).symm⟩
            obtain ⟨rfl, rfl⟩ := hp
            clear hall HN
            refine (gate_ex ex _ _ false _ I_1.out R_1.out (HG.out ex (List.mem_of_getElem? HX.out)) (HZ.out ex (List.mem_of_getElem? HX.out)) HW.out HQ.out).mono ?_
            rintro e wr2 ⟨rfl, b2⟩
            have C_2 := Lib.hid (C_1.out.below b2)
            clear C_1
            have Qs_2 := Lib.hid (Qs_1.out.trans (b2.mono Qs_1.out.size))
            clear Qs_1
            have Qt_2 := Lib.hid (Qt_1.out.trans (b2.mono Qt_1.out.size))
            clear Qt_1
            have I_2 := Lib.hid (I_1.out.below b2)
            clear I_1
            have R_2 := Lib.hid (R_1.out.below b2)
            clear R_1
            have KT_2 := Lib.hid (KT_1.out.below b2 KT_1.out.lt)
            clear KT_1
            have KG_2 := Lib.hid (KG_00.out.below b2 KG_00.out.lt)
            clear KG_00
            have B_2 := Lib.hid (B_1.out.trans (b2.mono B_1.out.size))
            clear B_1
            clear b2
            have lG_2 : wr.heap.size < wr2.heap.size := KG_2.out.lt
            have cG_0_2 : wr2.cell? ⟨wr.heap.size, 0, none⟩ = some (.string ex.name) := KG_2.out.cell 0
            have cG_1_2 : wr2.cell? ⟨wr.heap.size, 1, none⟩ = some (.int .i64 ex.op) := KG_2.out.cell 1
            have cG_2_2 : wr2.cell? ⟨wr.heap.size, 2, none⟩ = some (.slice pi ex.ins.length qi) := KG_2.out.cell 2
            have cG_3_2 : wr2.cell? ⟨wr.heap.size, 3, none⟩ = some (.slice pr ex.rows.length qr) := KG_2.out.cell 3
            have cG_4_2 : wr2.cell? ⟨wr.heap.size, 4, none⟩ = some (.bool ex.off) := KG_2.out.cell 4
            go_wp2
            exact ⟨rfl, rfl, B_2.out⟩
          · have HNX := Lib.hid (take_next hall.out HX.out (show noG ex = false by unfold noG; rw [HQ.out]; rfl))
            clear hall
            refine (gate_ex ex _ _ true _ I_1.out R_1.out (HG.out ex (List.mem_of_getElem? HX.out)) (HZ.out ex (List.mem_of_getElem? HX.out)) HW.out HQ.out).mono ?_
            rintro e wr2 ⟨rfl, b2⟩
            have C_2 := Lib.hid (C_1.out.below b2)
            clear C_1
            have Qs_2 := Lib.hid (Qs_1.out.trans (b2.mono Qs_1.out.size))
            clear Qs_1
            have Qt_2 := Lib.hid (Qt_1.out.trans (b2.mono Qt_1.out.size))
            clear Qt_1
            have I_2 := Lib.hid (I_1.out.below b2)
            clear I_1
            have R_2 := Lib.hid (R_1.out.below b2)
            clear R_1
            have KT_2 := Lib.hid (KT_1.out.below b2 KT_1.out.lt)
            clear KT_1
            have KG_2 := Lib.hid (KG_00.out.below b2 KG_00.out.lt)
            clear KG_00
            have B_2 := Lib.hid (B_1.out.trans (b2.mono B_1.out.size))
            clear B_1
            clear b2
            have lG_2 : wr.heap.size < wr2.heap.size := KG_2.out.lt
            have cG_0_2 : wr2.cell? ⟨wr.heap.size, 0, none⟩ = some (.string ex.name) := KG_2.out.cell 0
            have cG_1_2 : wr2.cell? ⟨wr.heap.size, 1, none⟩ = some (.int .i64 ex.op) := KG_2.out.cell 1
            have cG_2_2 : wr2.cell? ⟨wr.heap.size, 2, none⟩ = some (.slice pi ex.ins.length qi) := KG_2.out.cell 2
            have cG_3_2 : wr2.cell? ⟨wr.heap.size, 3, none⟩ = some (.slice pr ex.rows.length qr) := KG_2.out.cell 3
            have cG_4_2 : wr2.cell? ⟨wr.heap.size, 4, none⟩ = some (.bool ex.off) := KG_2.out.cell 4
            go_wp2
            refine ⟨⟨j + 1, by omega, by go_num, Qt_2.out, HNX⟩, ?_⟩
            simp [intOf]; omega
        · exfalso
          have hn := HN.out
          unfold partsG at hn
          rw [find_none (take_whole hall.out (show c.gts.length ≤ j by omega))] at hn
          cases hn
end Go.Proofs.YtfkmolbcgnkfdaaDoor

/- Is all that is used there. -/
namespace Go.Proofs.YtfkmolbcgnkfdaaDoor
open Go.RowKit Go.Maps
attribute [local go_sem] Oper.semAt_some
set_option maxRecDepth 100000
set_option maxHeartbeats 1000000
def noT (c : Ci) (s : ByteArray) : Bool := !usedB (netsC c) s
theorem take_flat_succ (pre : List ByteArray) (l : List Gt) (k : Nat) (x : Gt) (h : l[k]? = some x) : pre ++ (l.take (k + 1)).flatMap (·.ins) = (pre ++ (l.take k).flatMap (·.ins)) ++ x.ins := by
  rw [List.take_add_one, h, List.flatMap_append, List.append_assoc]
  simp
theorem flat_ins : ∀ (l : List Gt) (_ : FewG l), (l.flatMap (·.ins)).length ≤ l.length * 100000
  | [], _ => by simp
  | g :: l, h => by
    have h1 := flat_ins l (fun x hx => h x (by simp [hx]))
    have h2 := (h g (by simp)).1
    rw [List.flatMap_cons, List.length_append, List.length_cons]
    omega
theorem row_more_l {W : World} {B : Nat} {v : Value} {l m : List ByteArray} (h : W.ownsRow B 9 1 v (l.length + m.length) (l.flatMap stc ++ m.flatMap stc)) : W.ownsRow B 9 1 v (l ++ m).length ((l ++ m).flatMap stc) := by
  rw [List.length_append, List.flatMap_append]
  exact h
theorem row_kept {W W' : World} {B M : Nat} {v : Value} {n : Nat} {xs : List Value} (h : W.ownsRow B 9 1 v n xs) (hg : W.grownBy W' (some M)) (hB : M < B) : W'.ownsRow B 9 1 v n xs := by
  refine h.kept hg ?_
  cases e : v.ownBlock with
  | none => exact .inl rfl
  | some j => exact .inr (fun e2 => by have := (h.lt j e).1; cases e2; omega)
theorem netsC_few {c : Ci} (h : Few c) : (netsC c).length ≤ 300000 := by
  have h1 := h.ins
  have h2 := h.las
  have h3 := h.gts
  simp [netsC]
  omega

theorem there_ok (c : Ci) (a b l g : Value) (w : World) (h : Cir w a b l g c) (hf : Few c) (hg : FewG c.gts) (hzn : ∀ x ∈ netsC c, x.size ≤ maxLen) (hzu : ∀ x ∈ usedC c, x.size ≤ maxLen) (hn : (usedC c).find? (noT c) = none) :
    Calls Tryd.prog 49 #[.agg #[a, b, l, g]] w fun f w' => f = .returned (.tuple #[]) ∧ Below w.heap.size w w' := by
  obtain ⟨i0, hi, hz0, hz1, hz2⟩ := info_parts info9
  have hmm := @run_makeMap Tryd.prog
  have H := Lib.hid h
  obtain ⟨pa, qa, pb, qb, pl, ql, pg, qg, rfl, rfl, rfl, rfl⟩ := h.slices
  have hf1 := hf.ins
  have hf2 := hf.outs
  have hf3 := hf.las
  have hf4 := hf.gts
  have HF := Lib.hid hf
  have HNL := Lib.hid (netsC_few hf)
  have HFL := Lib.hid (flat_ins c.gts hg)
  have HG := Lib.hid hg
  have HZN := Lib.hid hzn
  have HZU := Lib.hid hzu
  have HN := Lib.hid hn
  clear h hf hg hzn hzu hn
  go_enter Tryd.func49, Tryd.ntmps49
  go_wp2_with fail
  have hq1 : (w.alloc (.cells #[.slice pa c.ins.length qa, .slice pb c.outs.length qb, .slice pl c.las.length ql, .slice pg c.gts.length qg] 26)).heap.size = w.heap.size + 1 := by simp
  have a1 : Below w.heap.size w (w.alloc (.cells #[.slice pa c.ins.length qa, .slice pb c.outs.length qb, .slice pl c.las.length ql, .slice pg c.gts.length qg] 26)) := ((Below.refl w.heap.size w).alloc (by first | exact Nat.le_refl _ | (simp only [World.size_alloc]; omega)) (.cells #[.slice pa c.ins.length qa, .slice pb c.outs.length qb, .slice pl c.las.length ql, .slice pg c.gts.length qg] 26))
  have T_new0 := (Blk.new w #[.slice pa c.ins.length qa, .slice pb c.outs.length qb, .slice pl c.las.length ql, .slice pg c.gts.length qg] 26)
  have KT_00 := Lib.hid T_new0
  clear T_new0
  have C_1 := Lib.hid (H.out.below a1)
  clear H
  have B_1 := Lib.hid a1
  clear a1
  generalize (w.alloc (.cells #[.slice pa c.ins.length qa, .slice pb c.outs.length qb, .slice pl c.las.length ql, .slice pg c.gts.length qg] 26)) = w1 at C_1 KT_00 B_1 hq1 ⊢
  have C_s := C_1
  have KT_s := KT_00
  have B_s := B_1
  have Qs_0 := Lib.hid (Below.refl w1.heap.size w1)
  have OM_0 := Lib.hid (World.ownsMap_made (H := Unit) w1 Tryd.prog 9 unitElem)
  rw [hq1] at OM_0
  have b2 : Below w1.heap.size w1 (w1.alloc (.map #[] 0)) := below_one _ _
  have sz2 : (w1.alloc (.map #[] 0)).heap.size = w1.heap.size + 1 := by simp
  have C_2 := Lib.hid (C_1.out.below b2)
  clear C_1
  have Qs_2 := Lib.hid (Qs_0.out.trans (b2.mono Qs_0.out.size))
  clear Qs_0
  have KT_2 := Lib.hid (KT_00.out.below b2 KT_00.out.lt)
  clear KT_00
  have B_2 := Lib.hid (B_1.out.trans (b2.mono B_1.out.size))
  clear B_1
  clear b2
  generalize (w1.alloc (.map #[] 0)) = w2 at C_2 Qs_2 OM_0 KT_2 B_2 sz2 ⊢
  refine (nets_any c _ _ _ _ _ C_2.out HF.out).mono ?_
  rintro e w3 ⟨v1, rfl, r1, b3⟩
  have C_3 := Lib.hid (C_2.out.below b3)
  clear C_2
  have Qs_3 := Lib.hid (Qs_2.out.trans (b3.mono Qs_2.out.size))
  clear Qs_2
  have OM_3 := Lib.hid (own_below OM_0.out b3)
  clear OM_0
  have KT_3 := Lib.hid (KT_2.out.below b3 KT_2.out.lt)
  clear KT_2
  have B_3 := Lib.hid (B_2.out.trans (b3.mono B_2.out.size))
  clear B_2
  clear b3
  obtain ⟨rb, rc, rfl⟩ := row_slice r1
  have R0 := Lib.hid r1
  clear r1
  have hnl := HNL.out
  go_wp2
  clear hnl
  go_loopw [18] (fun i wr => ∃ k : Nat, k ≤ (netsC c).length ∧ i = .int .i64 (k : Int) ∧ wr.ownsMap Tryd.prog 9 unitElem (w.heap.size + 1) k (stD (netsC c) k) ∧ w3.grownBy wr (some (w.heap.size + 1))) (fun i _ => (netsC c).length - (intOf i).toNat)
  case atStart => exact ⟨0, by omega, rfl, OM_3.out, World.grownBy.refl _ _⟩
  case round =>
    obtain ⟨k, hk, rfl, hown, hgr⟩ := hrel
    have hm3 : (w.heap.size + 1) + 1 ≤ w3.heap.size := by have := OM_3.out.lt; omega
    have hB := Qs_3.out.grown hgr (by omega) (fun j e => by cases e; omega)
    have RR := Lib.hid (row_kept R0.out hgr (by omega))
    clear R0
    have HGR := Lib.hid hgr
    clear hgr
    clear C_3 Qs_3 OM_3 KT_3 B_3
    have C_sr := Lib.hid (C_s.out.below hB)
    have KT_sr := Lib.hid (KT_s.out.below hB KT_s.out.lt)
    have B_sr := Lib.hid (B_s.out.trans (hB.mono B_s.out.size))
    have Qsr := Lib.hid hB
    clear hB
    by_cases hlt : k < (netsC c).length
    · have hlt' : (k : Int) < ((netsC c).length : Int) := by omega
      have hnl := HNL.out
      obtain ⟨g, o, cq, ex, hx, hv, hg, hc⟩ := (Lst.of_row RR.out).at_ stc_len hlt
      injection hv with hb _ hcc
      subst hb hcc
      have d0 : wr.cell? ⟨g, o + k, none⟩ = some (.string ex) := by have := hc 0 (by omega); simpa [stc] using this
      have hkey := key9 ex (HZN.out ex (List.mem_of_getElem? hx))
      have STS := Lib.hid (stD_succ (netsC c) k ex hx)
      have hws := hown.lt
      clear hc hx
      go_wp2_with (at_mapUpdate; refine wpList_mapUpdate_own (H := Unit) _ rfl _ _ _ 89 rfl 9 91 law9 Tryd.underlying89 unitElem (w.heap.size + 1) k _ rfl hown (by unfold maxLen; omega) _ _ _ rfl rfl hkey (.agg []) [] unitElem_mk ?_; intro w5 hown1 hgrow1)
      refine ⟨⟨k + 1, by omega, by go_num, ?_, HGR.out.trans hgrow1⟩, ?_⟩
      · rw [STS.out]; exact hown1
      · simp [intOf]; omega
    · have hge : ((netsC c).length : Int) ≤ (k : Int) := by omega
      obtain rfl : k = (netsC c).length := by omega
      clear RR HGR
      have OM := Lib.hid hown
      clear hown
      clear hlt hk
      rename World => wx
      have lT_0 : w.heap.size < wx.heap.size := KT_sr.out.lt
      have cT_0_0 : wx.cell? ⟨w.heap.size, 0, none⟩ = some (.slice pa c.ins.length qa) := KT_sr.out.cell 0
      have cT_1_0 : wx.cell? ⟨w.heap.size, 1, none⟩ = some (.slice pb c.outs.length qb) := KT_sr.out.cell 1
      have cT_2_0 : wx.cell? ⟨w.heap.size, 2, none⟩ = some (.slice pl c.las.length ql) := KT_sr.out.cell 2
      have cT_3_0 : wx.cell? ⟨w.heap.size, 3, none⟩ = some (.slice pg c.gts.length qg) := KT_sr.out.cell 3
      go_wp2_with fail
      clear hge
      have C_t := C_sr
      have Qs_t := Qsr
      have OM_t := OM
      have KT_t := KT_sr
      have B_t := B_sr
      have Qt_0 := Lib.hid (Below.refl wx.heap.size wx)
      clear lT_0 cT_0_0 cT_1_0 cT_2_0 cT_3_0
      refine (clone_any c.outs _ _ hf2 C_sr.out.outs.lst C_sr.out.outs.nil).mono ?_
      rintro e wx1 ⟨v1, rfl, r1, b1⟩
      have C_1 := Lib.hid (C_sr.out.below b1)
      clear C_sr
      have Qs_1 := Lib.hid (Qsr.out.trans (b1.mono Qsr.out.size))
      clear Qsr
      have OM_1 := Lib.hid (own_below OM.out b1)
      clear OM
      have Qt_1 := Lib.hid (Qt_0.out.trans (b1.mono Qt_0.out.size))
      clear Qt_0
      have KT_1 := Lib.hid (KT_sr.out.below b1 KT_sr.out.lt)
      clear KT_sr
      have B_1 := Lib.hid (B_sr.out.trans (b1.mono B_sr.out.size))
      clear B_sr
      clear b1
      have R := Lib.hid (row_eq r1 (show c.outs = c.outs ++ (c.las.map (·.next)).take 0 by rw [List.take_zero, List.append_nil]))
      clear r1
      have lT_1 : w.heap.size < wx1.heap.size := KT_1.out.lt
      have cT_0_1 : wx1.cell? ⟨w.heap.size, 0, none⟩ = some (.slice pa c.ins.length qa) := KT_1.out.cell 0
      have cT_1_1 : wx1.cell? ⟨w.heap.size, 1, none⟩ = some (.slice pb c.outs.length qb) := KT_1.out.cell 1
      have cT_2_1 : wx1.cell? ⟨w.heap.size, 2, none⟩ = some (.slice pl c.las.length ql) := KT_1.out.cell 2
      have cT_3_1 : wx1.cell? ⟨w.heap.size, 3, none⟩ = some (.slice pg c.gts.length qg) := KT_1.out.cell 3
      go_wp2
      clear lT_1 cT_0_1 cT_1_1 cT_2_1 cT_3_1
      go_loopw [5, 32] (fun x i wr => ∃ k : Nat, k ≤ c.las.length ∧ i = .int .i64 (k : Int) ∧ wr.ownsRow wx.heap.size 9 1 x (c.outs ++ (c.las.map (·.next)).take k).length ((c.outs ++ (c.las.map (·.next)).take k).flatMap stc) ∧ Below wx.heap.size wx wr) (fun _ i _ => c.las.length - (intOf i).toNat)
      case atStart => exact ⟨0, by omega, rfl, R.out, Qt_1.out⟩
      case round =>
        obtain ⟨k, hk, rfl, hrow, hB⟩ := hrel
        clear R
        clear C_1 Qs_1 OM_1 Qt_1 KT_1 B_1
        have C_tr := Lib.hid (C_t.out.below hB)
        have Qs_tr := Lib.hid (Qs_t.out.trans (hB.mono Qs_t.out.size))
        have OM_tr := Lib.hid (own_below OM_t.out hB)
        have KT_tr := Lib.hid (KT_t.out.below hB KT_t.out.lt)
        have B_tr := Lib.hid (B_t.out.trans (hB.mono B_t.out.size))
        have Qtr := Lib.hid hB
        by_cases hlt : k < c.las.length
        · obtain ⟨eg, eo, ec, ex, hx, hv, hg, d0, d1, d2⟩ := C_tr.out.las.at_ hlt
          injection hv with e1 e2 e3
          subst e1 e3
          clear e2
          have hlt' : (k : Int) < (c.las.length : Int) := by omega
          have hle : (c.outs ++ (c.las.map (·.next)).take k).length ≤ 1000000 := by simp; omega
          have HT := Lib.hid (take_map_succ (·.next) c.outs c.las k ex hx)
          clear hx
          have hs1 := hB.size
          have HRow := Lib.hid hrow
          clear hrow
          generalize c.outs ++ (c.las.map (·.next)).take k = acc at *
          have lT_0 : w.heap.size < wr.heap.size := KT_tr.out.lt
          have cT_0_0 : wr.cell? ⟨w.heap.size, 0, none⟩ = some (.slice pa c.ins.length qa) := KT_tr.out.cell 0
          have cT_1_0 : wr.cell? ⟨w.heap.size, 1, none⟩ = some (.slice pb c.outs.length qb) := KT_tr.out.cell 1
          have cT_2_0 : wr.cell? ⟨w.heap.size, 2, none⟩ = some (.slice (some ⟨eg, eo, none⟩) c.las.length ql) := KT_tr.out.cell 2
          have cT_3_0 : wr.cell? ⟨w.heap.size, 3, none⟩ = some (.slice pg c.gts.length qg) := KT_tr.out.cell 3
          go_wp2_with (at_builtin; go_loud (refine wpList_append_own _ rfl _ _ 22 rfl wx.heap.size 9 i0 (.string ⟨#[]⟩) 1 16 Tryd.underlying22 hi hz0 hz1 hz2 rfl (by decide) _ acc.length _ rfl (row_below HRow.out (chain2 (below_one _ _) (below_one _ _))) ⟨wr.heap.size + 1, 0, none⟩ 1 1 [.string ex.next] rfl rfl (cell_one_at _ _ _ (by simp)) (by simp [Value.oneCell']) (by unfold maxLen; omega) (by omega) (by first | omega | (simp; omega)) ?_; intro v4 w4 r4 g4 _))
          have B5 := Lib.hid (((hB.alloc (by first | exact hs1 | (simp; omega)) _).alloc (by first | exact hs1 | (simp; omega)) _).grown g4 (by simp; omega) (fun j e => (HRow.out.lt j e).1))
          have r5 := row_more r4
          rw [← HT.out] at r5
          have R5 := Lib.hid r5
          clear r4 g4 r5 hB
          clear lT_0 cT_0_0 cT_1_0 cT_2_0 cT_3_0
          go_wp2
          refine ⟨⟨k + 1, by omega, by go_num, R5.out, B5.out⟩, ?_⟩
          simp [intOf]; omega
        · have hge : (c.las.length : Int) ≤ (k : Int) := by omega
          obtain rfl : k = c.las.length := by omega
          have R2 := Lib.hid (row_eq hrow (show _ = (c.outs ++ c.las.map (·.next)) ++ (c.gts.take 0).flatMap (·.ins) by rw [take_map_all, List.take_zero, List.flatMap_nil, List.append_nil]))
          clear hrow hge hlt hk hB
          have lT_0 : w.heap.size < wr.heap.size := KT_tr.out.lt
          have cT_0_0 : wr.cell? ⟨w.heap.size, 0, none⟩ = some (.slice pa c.ins.length qa) := KT_tr.out.cell 0
          have cT_1_0 : wr.cell? ⟨w.heap.size, 1, none⟩ = some (.slice pb c.outs.length qb) := KT_tr.out.cell 1
          have cT_2_0 : wr.cell? ⟨w.heap.size, 2, none⟩ = some (.slice pl c.las.length ql) := KT_tr.out.cell 2
          have cT_3_0 : wr.cell? ⟨w.heap.size, 3, none⟩ = some (.slice pg c.gts.length qg) := KT_tr.out.cell 3
          go_wp2
          clear lT_0 cT_0_0 cT_1_0 cT_2_0 cT_3_0
          go_loopw [5, 45] (fun x i wr => ∃ k : Nat, k ≤ c.gts.length ∧ i = .int .i64 (k : Int) ∧ wr.ownsRow wx.heap.size 9 1 x (((c.outs ++ c.las.map (·.next)) ++ (c.gts.take k).flatMap (·.ins))).length ((((c.outs ++ c.las.map (·.next)) ++ (c.gts.take k).flatMap (·.ins))).flatMap stc) ∧ Below wx.heap.size wx wr) (fun _ i _ => c.gts.length - (intOf i).toNat)
          case atStart => exact ⟨0, by omega, rfl, R2.out, Qtr.out⟩
          case round =>
            obtain ⟨k, hk, rfl, hrow, hB⟩ := hrel
            clear R2
            clear C_tr Qs_tr OM_tr Qtr KT_tr B_tr
            have C_tr := Lib.hid (C_t.out.below hB)
            have Qs_tr := Lib.hid (Qs_t.out.trans (hB.mono Qs_t.out.size))
            have OM_tr := Lib.hid (own_below OM_t.out hB)
            have KT_tr := Lib.hid (KT_t.out.below hB KT_t.out.lt)
            have B_tr := Lib.hid (B_t.out.trans (hB.mono B_t.out.size))
            have Qtr := Lib.hid hB
            by_cases hlt : k < c.gts.length
            · have hlt' : (k : Int) < (c.gts.length : Int) := by omega
              obtain ⟨eg, eo, ec, ex, er, hx, ha, hv, hg, d0, d1, d2, d3, d4⟩ := C_tr.out.gts.at_ hlt
              have HA := Lib.hid ha.ins
              obtain ⟨pi, qi, ei⟩ := ha.ins.lst.slice
              obtain ⟨pr, qr, er'⟩ := ha.rows.lst.slice
              rw [ei] at d2 HA
              rw [er'] at d3
              clear ha ei er'
              injection hv with e1 e2 e3
              subst e1 e3
              clear e2
              have hil := (HG.out ex (List.mem_of_getElem? hx)).1
              have HT := Lib.hid (take_flat_succ (c.outs ++ c.las.map (·.next)) c.gts k ex hx)
              clear hx
              have hle : (((c.outs ++ c.las.map (·.next)) ++ (c.gts.take k).flatMap (·.ins))).length ≤ 20000000000 := by
                have h1 := flat_ins (c.gts.take k) (fun g hg => HG.out g (List.mem_of_mem_take hg))
                have h2 : (c.gts.take k).length ≤ 100000 := by simp; omega
                simp only [List.length_append, List.length_map]
                omega
              have RW := Lib.hid hrow
              clear hrow hB
              generalize ((c.outs ++ c.las.map (·.next)) ++ (c.gts.take k).flatMap (·.ins)) = acc at HT RW hle ⊢
              have hs1 := Qtr.out.size
              have lT_0 : w.heap.size < wr.heap.size := KT_tr.out.lt
              have cT_0_0 : wr.cell? ⟨w.heap.size, 0, none⟩ = some (.slice pa c.ins.length qa) := KT_tr.out.cell 0
              have cT_1_0 : wr.cell? ⟨w.heap.size, 1, none⟩ = some (.slice pb c.outs.length qb) := KT_tr.out.cell 1
              have cT_2_0 : wr.cell? ⟨w.heap.size, 2, none⟩ = some (.slice pl c.las.length ql) := KT_tr.out.cell 2
              have cT_3_0 : wr.cell? ⟨w.heap.size, 3, none⟩ = some (.slice (some ⟨eg, eo, none⟩) c.gts.length qg) := KT_tr.out.cell 3
              go_wp2_with (at_builtin; go_loud (refine wpList_append_lst (ec := stc) rfl _ _ 22 rfl wx.heap.size 9 i0 (.string ⟨#[]⟩) 1 16 Tryd.underlying22 hi hz0 hz1 hz2 rfl (by decide) _ acc.length _ rfl (row_below RW.out (below_one _ _)) _ ex.ins rfl (HA.out.below (below_one _ _)).lst HA.out.nil stc_len (stc_one _) (by unfold maxLen; omega) (by omega) (by simp; omega) ?_; intro v4 w4 r4 g4))
              have B5 := Lib.hid ((Qtr.out.alloc hs1 _).grown g4 (by simp; omega) (fun j e => (RW.out.lt j e).1))
              have r5 := row_more_l r4
              rw [← HT.out] at r5
              have R5 := Lib.hid r5
              clear r4 g4 r5
              clear lT_0 cT_0_0 cT_1_0 cT_2_0 cT_3_0
              go_wp2
              refine ⟨⟨k + 1, by omega, by go_num, R5.out, B5.out⟩, ?_⟩
              simp [intOf]; omega
            · have hge : (c.gts.length : Int) ≤ (k : Int) := by omega
              obtain rfl : k = c.gts.length := by omega
              have hu : (c.outs ++ c.las.map (·.next)) ++ (c.gts.take c.gts.length).flatMap (·.ins) = usedC c := by
                rw [List.take_length, List.append_assoc]; rfl
              have r9 := row_eq hrow hu
              have LU := Lib.hid (Lst.of_row r9)
              obtain ⟨ub, uc, rfl⟩ := row_slice r9
              have hul : (usedC c).length ≤ 20000000000 := by
                have := HFL.out
                rw [← hu]
                simp only [List.length_append, List.length_map, List.take_length]
                omega
              clear r9 hrow hu hB hlt hk
              clear Qs_tr
              clear Qtr
              rename World => wu
              generalize hUU : (usedC c).length = nU at *
              have HUU := Lib.hid hUU
              clear hUU
              have C_u := C_tr
              have OM_u := OM_tr
              have LU_u := LU
              have KT_u := KT_tr
              have B_u := B_tr
              have Qu_0 := Lib.hid (Below.refl wu.heap.size wu)
              go_wp2
              clear hge
              go_loopw [56] (fun i wr => ∃ k : Nat, k ≤ nU ∧ i = .int .i64 (k : Int) ∧ Below wu.heap.size wu wr) (fun i _ => nU - (intOf i).toNat)
              case atStart => exact ⟨0, by omega, rfl, Below.refl _ _⟩
              case round =>
                obtain ⟨k, hk, rfl, hB⟩ := hrel
                clear C_tr OM_tr LU Qu_0 KT_tr B_tr
                have C_ur := Lib.hid (C_u.out.below hB)
                have OM_ur := Lib.hid (own_below OM_u.out hB)
                have LU_ur := Lib.hid (LU_u.out.below hB)
                have KT_ur := Lib.hid (KT_u.out.below hB KT_u.out.lt)
                have B_ur := Lib.hid (B_u.out.trans (hB.mono B_u.out.size))
                have Qur := Lib.hid hB
                clear hB
                by_cases hlt : k < nU
                · have hlt' : (k : Int) < (nU : Int) := by omega
                  obtain ⟨g, o, cq, ex, hx, hv, hg, hc⟩ := LU_ur.out.at_ stc_len (show k < (usedC c).length by have := HUU.out; omega)
                  injection hv with hb he hcc
                  subst hb hcc
                  clear he
                  have d0 : wr.cell? ⟨g, o + k, none⟩ = some (.string ex) := by have := hc 0 (by omega); simpa [stc] using this
                  have hkey := key9 ex (HZU.out ex (List.mem_of_getElem? hx))
                  have HAS := Lib.hid (stD_has (netsC c) ex (netsC c).length (Nat.le_refl _))
                  rw [List.take_length] at HAS
                  have HX := Lib.hid hx
                  have hown := OM_ur.out
                  have hws := hown.lt
                  have BX := Lib.hid (B_ur.out.trans ((below_one wr (.cells #[] 91)).mono B_ur.out.size))
                  have QX := Lib.hid (Qur.out.trans ((below_one wr (.cells #[] 91)).mono Qur.out.size))
                  clear hc hx
                  cases hu : usedB (netsC c) ex
                  · rw [hu] at HAS
                    exfalso
                    have := List.find?_eq_none.1 HN.out ex (List.mem_of_getElem? HX.out)
                    unfold noT at this
                    rw [hu] at this
                    exact this rfl
                  · rw [hu] at HAS
                    clear hu
                    go_wp2_with (first | (at_lookup; refine wpList_lookup_own_unit (H := Unit) _ rfl _ _ 89 rfl 9 91 law9 Tryd.underlying89 (zero91 _) _ (netsC c).length _ rfl hown _ _ rfl hkey ?_; rw [HAS.out]))
                    refine ⟨⟨k + 1, by omega, by go_num, QX.out⟩, ?_⟩
                    simp [intOf]; omega
                · have hge2 : (nU : Int) ≤ (k : Int) := by omega
                  go_wp2
                  go_end0
                  exact ⟨rfl, B_ur.out⟩

theorem there_bad (c : Ci) (a b l g : Value) (s : ByteArray) (w : World) (h : Cir w a b l g c) (hf : Few c) (hg : FewG c.gts) (hzn : ∀ x ∈ netsC c, x.size ≤ maxLen) (hzu : ∀ x ∈ usedC c, x.size ≤ maxLen) (hn : (usedC c).find? (noT c) = some s) :
    Calls Tryd.prog 49 #[.agg #[a, b, l, g]] w fun f w' => f = Wr 6 s ∧ Below w.heap.size w w' := by
  obtain ⟨i0, hi, hz0, hz1, hz2⟩ := info_parts info9
  have hmm := @run_makeMap Tryd.prog
  have H := Lib.hid h
  obtain ⟨pa, qa, pb, qb, pl, ql, pg, qg, rfl, rfl, rfl, rfl⟩ := h.slices
  have hf1 := hf.ins
  have hf2 := hf.outs
  have hf3 := hf.las
  have hf4 := hf.gts
  have HF := Lib.hid hf
  have HNL := Lib.hid (netsC_few hf)
  have HFL := Lib.hid (flat_ins c.gts hg)
  have HG := Lib.hid hg
  have HZN := Lib.hid hzn
  have HZU := Lib.hid hzu
  have HN := Lib.hid hn
  clear h hf hg hzn hzu hn
  go_enter Tryd.func49, Tryd.ntmps49
  go_wp2_with fail
  have hq1 : (w.alloc (.cells #[.slice pa c.ins.length qa, .slice pb c.outs.length qb, .slice pl c.las.length ql, .slice pg c.gts.length qg] 26)).heap.size = w.heap.size + 1 := by simp
  have a1 : Below w.heap.size w (w.alloc (.cells #[.slice pa c.ins.length qa, .slice pb c.outs.length qb, .slice pl c.las.length ql, .slice pg c.gts.length qg] 26)) := ((Below.refl w.heap.size w).alloc (by first | exact Nat.le_refl _ | (simp only [World.size_alloc]; omega)) (.cells #[.slice pa c.ins.length qa, .slice pb c.outs.length qb, .slice pl c.las.length ql, .slice pg c.gts.length qg] 26))
  have T_new0 := (Blk.new w #[.slice pa c.ins.length qa, .slice pb c.outs.length qb, .slice pl c.las.length ql, .slice pg c.gts.length qg] 26)
  have KT_00 := Lib.hid T_new0
  clear T_new0
  have C_1 := Lib.hid (H.out.below a1)
  clear H
  have B_1 := Lib.hid a1
  clear a1
  generalize (w.alloc (.cells #[.slice pa c.ins.length qa, .slice pb c.outs.length qb, .slice pl c.las.length ql, .slice pg c.gts.length qg] 26)) = w1 at C_1 KT_00 B_1 hq1 ⊢
  have C_s := C_1
  have KT_s := KT_00
  have B_s := B_1
  have Qs_0 := Lib.hid (Below.refl w1.heap.size w1)
  have OM_0 := Lib.hid (World.ownsMap_made (H := Unit) w1 Tryd.prog 9 unitElem)
  rw [hq1] at OM_0
  have b2 : Below w1.heap.size w1 (w1.alloc (.map #[] 0)) := below_one _ _
  have sz2 : (w1.alloc (.map #[] 0)).heap.size = w1.heap.size + 1 := by simp
  have C_2 := Lib.hid (C_1.out.below b2)
  clear C_1
  have Qs_2 := Lib.hid (Qs_0.out.trans (b2.mono Qs_0.out.size))
  clear Qs_0
  have KT_2 := Lib.hid (KT_00.out.below b2 KT_00.out.lt)
  clear KT_00
  have B_2 := Lib.hid (B_1.out.trans (b2.mono B_1.out.size))
  clear B_1
  clear b2
  generalize (w1.alloc (.map #[] 0)) = w2 at C_2 Qs_2 OM_0 KT_2 B_2 sz2 ⊢
  refine (nets_any c _ _ _ _ _ C_2.out HF.out).mono ?_
  rintro e w3 ⟨v1, rfl, r1, b3⟩
  have C_3 := Lib.hid (C_2.out.below b3)
  clear C_2
  have Qs_3 := Lib.hid (Qs_2.out.trans (b3.mono Qs_2.out.size))
  clear Qs_2
  have OM_3 := Lib.hid (own_below OM_0.out b3)
  clear OM_0
  have KT_3 := Lib.hid (KT_2.out.below b3 KT_2.out.lt)
  clear KT_2
  have B_3 := Lib.hid (B_2.out.trans (b3.mono B_2.out.size))
  clear B_2
  clear b3
  obtain ⟨rb, rc, rfl⟩ := row_slice r1
  have R0 := Lib.hid r1
  clear r1
  have hnl := HNL.out
  go_wp2
  clear hnl
  go_loopw [18] (fun i wr => ∃ k : Nat, k ≤ (netsC c).length ∧ i = .int .i64 (k : Int) ∧ wr.ownsMap Tryd.prog 9 unitElem (w.heap.size + 1) k (stD (netsC c) k) ∧ w3.grownBy wr (some (w.heap.size + 1))) (fun i _ => (netsC c).length - (intOf i).toNat)
  case atStart => exact ⟨0, by omega, rfl, OM_3.out, World.grownBy.refl _ _⟩
  case round =>
    obtain ⟨k, hk, rfl, hown, hgr⟩ := hrel
    have hm3 : (w.heap.size + 1) + 1 ≤ w3.heap.size := by have := OM_3.out.lt; omega
    have hB := Qs_3.out.grown hgr (by omega) (fun j e => by cases e; omega)
    have RR := Lib.hid (row_kept R0.out hgr (by omega))
    clear R0
    have HGR := Lib.hid hgr
    clear hgr
    clear C_3 Qs_3 OM_3 KT_3 B_3
    have C_sr := Lib.hid (C_s.out.below hB)
    have KT_sr := Lib.hid (KT_s.out.below hB KT_s.out.lt)
    have B_sr := Lib.hid (B_s.out.trans (hB.mono B_s.out.size))
    have Qsr := Lib.hid hB
    clear hB
    by_cases hlt : k < (netsC c).length
    · have hlt' : (k : Int) < ((netsC c).length : Int) := by omega
      have hnl := HNL.out
      obtain ⟨g, o, cq, ex, hx, hv, hg, hc⟩ := (Lst.of_row RR.out).at_ stc_len hlt
      injection hv with hb _ hcc
      subst hb hcc
      have d0 : wr.cell? ⟨g, o + k, none⟩ = some (.string ex) := by have := hc 0 (by omega); simpa [stc] using this
      have hkey := key9 ex (HZN.out ex (List.mem_of_getElem? hx))
      have STS := Lib.hid (stD_succ (netsC c) k ex hx)
      have hws := hown.lt
      clear hc hx
      go_wp2_with (at_mapUpdate; refine wpList_mapUpdate_own (H := Unit) _ rfl _ _ _ 89 rfl 9 91 law9 Tryd.underlying89 unitElem (w.heap.size + 1) k _ rfl hown (by unfold maxLen; omega) _ _ _ rfl rfl hkey (.agg []) [] unitElem_mk ?_; intro w5 hown1 hgrow1)
      refine ⟨⟨k + 1, by omega, by go_num, ?_, HGR.out.trans hgrow1⟩, ?_⟩
      · rw [STS.out]; exact hown1
      · simp [intOf]; omega
    · have hge : ((netsC c).length : Int) ≤ (k : Int) := by omega
      obtain rfl : k = (netsC c).length := by omega
      clear RR HGR
      have OM := Lib.hid hown
      clear hown
      clear hlt hk
      rename World => wx
      have lT_0 : w.heap.size < wx.heap.size := KT_sr.out.lt
      have cT_0_0 : wx.cell? ⟨w.heap.size, 0, none⟩ = some (.slice pa c.ins.length qa) := KT_sr.out.cell 0
      have cT_1_0 : wx.cell? ⟨w.heap.size, 1, none⟩ = some (.slice pb c.outs.length qb) := KT_sr.out.cell 1
      have cT_2_0 : wx.cell? ⟨w.heap.size, 2, none⟩ = some (.slice pl c.las.length ql) := KT_sr.out.cell 2
      have cT_3_0 : wx.cell? ⟨w.heap.size, 3, none⟩ = some (.slice pg c.gts.length qg) := KT_sr.out.cell 3
      go_wp2_with fail
      clear hge
      have C_t := C_sr
      have Qs_t := Qsr
      have OM_t := OM
      have KT_t := KT_sr
      have B_t := B_sr
      have Qt_0 := Lib.hid (Below.refl wx.heap.size wx)
      clear lT_0 cT_0_0 cT_1_0 cT_2_0 cT_3_0
      refine (clone_any c.outs _ _ hf2 C_sr.out.outs.lst C_sr.out.outs.nil).mono ?_
      rintro e wx1 ⟨v1, rfl, r1, b1⟩
      have C_1 := Lib.hid (C_sr.out.below b1)
      clear C_sr
      have Qs_1 := Lib.hid (Qsr.out.trans (b1.mono Qsr.out.size))
      clear Qsr
      have OM_1 := Lib.hid (own_below OM.out b1)
      clear OM
      have Qt_1 := Lib.hid (Qt_0.out.trans (b1.mono Qt_0.out.size))
      clear Qt_0
      have KT_1 := Lib.hid (KT_sr.out.below b1 KT_sr.out.lt)
      clear KT_sr
      have B_1 := Lib.hid (B_sr.out.trans (b1.mono B_sr.out.size))
      clear B_sr
      clear b1
      have R := Lib.hid (row_eq r1 (show c.outs = c.outs ++ (c.las.map (·.next)).take 0 by rw [List.take_zero, List.append_nil]))
      clear r1
      have lT_1 : w.heap.size < wx1.heap.size := KT_1.out.lt
      have cT_0_1 : wx1.cell? ⟨w.heap.size, 0, none⟩ = some (.slice pa c.ins.length qa) := KT_1.out.cell 0
      have cT_1_1 : wx1.cell? ⟨w.heap.size, 1, none⟩ = some (.slice pb c.outs.length qb) := KT_1.out.cell 1
      have cT_2_1 : wx1.cell? ⟨w.heap.size, 2, none⟩ = some (.slice pl c.las.length ql) := KT_1.out.cell 2
      have cT_3_1 : wx1.cell? ⟨w.heap.size, 3, none⟩ = some (.slice pg c.gts.length qg) := KT_1.out.cell 3
      go_wp2
      clear lT_1 cT_0_1 cT_1_1 cT_2_1 cT_3_1
      go_loopw [5, 32] (fun x i wr => ∃ k : Nat, k ≤ c.las.length ∧ i = .int .i64 (k : Int) ∧ wr.ownsRow wx.heap.size 9 1 x (c.outs ++ (c.las.map (·.next)).take k).length ((c.outs ++ (c.las.map (·.next)).take k).flatMap stc) ∧ Below wx.heap.size wx wr) (fun _ i _ => c.las.length - (intOf i).toNat)
      case atStart => exact ⟨0, by omega, rfl, R.out, Qt_1.out⟩
      case round =>
        obtain ⟨k, hk, rfl, hrow, hB⟩ := hrel
        clear R
        clear C_1 Qs_1 OM_1 Qt_1 KT_1 B_1
        have C_tr := Lib.hid (C_t.out.below hB)
        have Qs_tr := Lib.hid (Qs_t.out.trans (hB.mono Qs_t.out.size))
        have OM_tr := Lib.hid (own_below OM_t.out hB)
        have KT_tr := Lib.hid (KT_t.out.below hB KT_t.out.lt)
        have B_tr := Lib.hid (B_t.out.trans (hB.mono B_t.out.size))
        have Qtr := Lib.hid hB
        by_cases hlt : k < c.las.length
        · obtain ⟨eg, eo, ec, ex, hx, hv, hg, d0, d1, d2⟩ := C_tr.out.las.at_ hlt
          injection hv with e1 e2 e3
          subst e1 e3
          clear e2
          have hlt' : (k : Int) < (c.las.length : Int) := by omega
          have hle : (c.outs ++ (c.las.map (·.next)).take k).length ≤ 1000000 := by simp; omega
          have HT := Lib.hid (take_map_succ (·.next) c.outs c.las k ex hx)
          clear hx
          have hs1 := hB.size
          have HRow := Lib.hid hrow
          clear hrow
          generalize c.outs ++ (c.las.map (·.next)).take k = acc at *
          have lT_0 : w.heap.size < wr.heap.size := KT_tr.out.lt
          have cT_0_0 : wr.cell? ⟨w.heap.size, 0, none⟩ = some (.slice pa c.ins.length qa) := KT_tr.out.cell 0
          have cT_1_0 : wr.cell? ⟨w.heap.size, 1, none⟩ = some (.slice pb c.outs.length qb) := KT_tr.out.cell 1
          have cT_2_0 : wr.cell? ⟨w.heap.size, 2, none⟩ = some (.slice (some ⟨eg, eo, none⟩) c.las.length ql) := KT_tr.out.cell 2
          have cT_3_0 : wr.cell? ⟨w.heap.size, 3, none⟩ = some (.slice pg c.gts.length qg) := KT_tr.out.cell 3
          go_wp2_with (at_builtin; go_loud (refine wpList_append_own _ rfl _ _ 22 rfl wx.heap.size 9 i0 (.string ⟨#[]⟩) 1 16 Tryd.underlying22 hi hz0 hz1 hz2 rfl (by decide) _ acc.length _ rfl (row_below HRow.out (chain2 (below_one _ _) (below_one _ _))) ⟨wr.heap.size + 1, 0, none⟩ 1 1 [.string ex.next] rfl rfl (cell_one_at _ _ _ (by simp)) (by simp [Value.oneCell']) (by unfold maxLen; omega) (by omega) (by first | omega | (simp; omega)) ?_; intro v4 w4 r4 g4 _))
          have B5 := Lib.hid (((hB.alloc (by first | exact hs1 | (simp; omega)) _).alloc (by first | exact hs1 | (simp; omega)) _).grown g4 (by simp; omega) (fun j e => (HRow.out.lt j e).1))
          have r5 := row_more r4
          rw [← HT.out] at r5
          have R5 := Lib.hid r5
          clear r4 g4 r5 hB
          clear lT_0 cT_0_0 cT_1_0 cT_2_0 cT_3_0
          go_wp2
          refine ⟨⟨k + 1, by omega, by go_num, R5.out, B5.out⟩, ?_⟩
          simp [intOf]; omega
        · have hge : (c.las.length : Int) ≤ (k : Int) := by omega
          obtain rfl : k = c.las.length := by omega
          have R2 := Lib.hid (row_eq hrow (show _ = (c.outs ++ c.las.map (·.next)) ++ (c.gts.take 0).flatMap (·.ins) by rw [take_map_all, List.take_zero, List.flatMap_nil, List.append_nil]))
          clear hrow hge hlt hk hB
          have lT_0 : w.heap.size < wr.heap.size := KT_tr.out.lt
          have cT_0_0 : wr.cell? ⟨w.heap.size, 0, none⟩ = some (.slice pa c.ins.length qa) := KT_tr.out.cell 0
          have cT_1_0 : wr.cell? ⟨w.heap.size, 1, none⟩ = some (.slice pb c.outs.length qb) := KT_tr.out.cell 1
          have cT_2_0 : wr.cell? ⟨w.heap.size, 2, none⟩ = some (.slice pl c.las.length ql) := KT_tr.out.cell 2
          have cT_3_0 : wr.cell? ⟨w.heap.size, 3, none⟩ = some (.slice pg c.gts.length qg) := KT_tr.out.cell 3
          go_wp2
          clear lT_0 cT_0_0 cT_1_0 cT_2_0 cT_3_0
          go_loopw [5, 45] (fun x i wr => ∃ k : Nat, k ≤ c.gts.length ∧ i = .int .i64 (k : Int) ∧ wr.ownsRow wx.heap.size 9 1 x (((c.outs ++ c.las.map (·.next)) ++ (c.gts.take k).flatMap (·.ins))).length ((((c.outs ++ c.las.map (·.next)) ++ (c.gts.take k).flatMap (·.ins))).flatMap stc) ∧ Below wx.heap.size wx wr) (fun _ i _ => c.gts.length - (intOf i).toNat)
          case atStart => exact ⟨0, by omega, rfl, R2.out, Qtr.out⟩
          case round =>
            obtain ⟨k, hk, rfl, hrow, hB⟩ := hrel
            clear R2
            clear C_tr Qs_tr OM_tr Qtr KT_tr B_tr
            have C_tr := Lib.hid (C_t.out.below hB)
            have Qs_tr := Lib.hid (Qs_t.out.trans (hB.mono Qs_t.out.size))
            have OM_tr := Lib.hid (own_below OM_t.out hB)
            have KT_tr := Lib.hid (KT_t.out.below hB KT_t.out.lt)
            have B_tr := Lib.hid (B_t.out.trans (hB.mono B_t.out.size))
            have Qtr := Lib.hid hB
            by_cases hlt : k < c.gts.length
            · have hlt' : (k : Int) < (c.gts.length : Int) := by omega
              obtain ⟨eg, eo, ec, ex, er, hx, ha, hv, hg, d0, d1, d2, d3, d4⟩ := C_tr.out.gts.at_ hlt
              have HA := Lib.hid ha.ins
              obtain ⟨pi, qi, ei⟩ := ha.ins.lst.slice
              obtain ⟨pr, qr, er'⟩ := ha.rows.lst.slice
              rw [ei] at d2 HA
              rw [er'] at d3
              clear ha ei er'
              injection hv with e1 e2 e3
              subst e1 e3
              clear e2
              have hil := (HG.out ex (List.mem_of_getElem? hx)).1
              have HT := Lib.hid (take_flat_succ (c.outs ++ c.las.map (·.next)) c.gts k ex hx)
              clear hx
              have hle : (((c.outs ++ c.las.map (·.next)) ++ (c.gts.take k).flatMap (·.ins))).length ≤ 20000000000 := by
                have h1 := flat_ins (c.gts.take k) (fun g hg => HG.out g (List.mem_of_mem_take hg))
                have h2 : (c.gts.take k).length ≤ 100000 := by simp; omega
                simp only [List.length_append, List.length_map]
                omega
              have RW := Lib.hid hrow
              clear hrow hB
              generalize ((c.outs ++ c.las.map (·.next)) ++ (c.gts.take k).flatMap (·.ins)) = acc at HT RW hle ⊢
              have hs1 := Qtr.out.size
              have lT_0 : w.heap.size < wr.heap.size := KT_tr.out.lt
              have cT_0_0 : wr.cell? ⟨w.heap.size, 0, none⟩ = some (.slice pa c.ins.length qa) := KT_tr.out.cell 0
              have cT_1_0 : wr.cell? ⟨w.heap.size, 1, none⟩ = some (.slice pb c.outs.length qb) := KT_tr.out.cell 1
              have cT_2_0 : wr.cell? ⟨w.heap.size, 2, none⟩ = some (.slice pl c.las.length ql) := KT_tr.out.cell 2
              have cT_3_0 : wr.cell? ⟨w.heap.size, 3, none⟩ = some (.slice (some ⟨eg, eo, none⟩) c.gts.length qg) := KT_tr.out.cell 3
              go_wp2_with (at_builtin; go_loud (refine wpList_append_lst (ec := stc) rfl _ _ 22 rfl wx.heap.size 9 i0 (.string ⟨#[]⟩) 1 16 Tryd.underlying22 hi hz0 hz1 hz2 rfl (by decide) _ acc.length _ rfl (row_below RW.out (below_one _ _)) _ ex.ins rfl (HA.out.below (below_one _ _)).lst HA.out.nil stc_len (stc_one _) (by unfold maxLen; omega) (by omega) (by simp; omega) ?_; intro v4 w4 r4 g4))
              have B5 := Lib.hid ((Qtr.out.alloc hs1 _).grown g4 (by simp; omega) (fun j e => (RW.out.lt j e).1))
              have r5 := row_more_l r4
              rw [← HT.out] at r5
              have R5 := Lib.hid r5
              clear r4 g4 r5
              clear lT_0 cT_0_0 cT_1_0 cT_2_0 cT_3_0
              go_wp2
              refine ⟨⟨k + 1, by omega, by go_num, R5.out, B5.out⟩, ?_⟩
              simp [intOf]; omega
            · have hge : (c.gts.length : Int) ≤ (k : Int) := by omega
              obtain rfl : k = c.gts.length := by omega
              have hu : (c.outs ++ c.las.map (·.next)) ++ (c.gts.take c.gts.length).flatMap (·.ins) = usedC c := by
                rw [List.take_length, List.append_assoc]; rfl
              have r9 := row_eq hrow hu
              have LU := Lib.hid (Lst.of_row r9)
              obtain ⟨ub, uc, rfl⟩ := row_slice r9
              have hul : (usedC c).length ≤ 20000000000 := by
                have := HFL.out
                rw [← hu]
                simp only [List.length_append, List.length_map, List.take_length]
                omega
              clear r9 hrow hu hB hlt hk
              clear Qs_tr
              clear Qtr
              rename World => wu
              generalize hUU : (usedC c).length = nU at *
              have HUU := Lib.hid hUU
              clear hUU
              have C_u := C_tr
              have OM_u := OM_tr
              have LU_u := LU
              have KT_u := KT_tr
              have B_u := B_tr
              have Qu_0 := Lib.hid (Below.refl wu.heap.size wu)
              go_wp2
              clear hge
              go_loopw [56] (fun i wr => ∃ k : Nat, k ≤ nU ∧ i = .int .i64 (k : Int) ∧ Below wu.heap.size wu wr ∧ Hid (∀ g ∈ (usedC c).take k, noT c g = false)) (fun i _ => nU - (intOf i).toNat)
              case atStart => exact ⟨0, by omega, rfl, Below.refl _ _, Lib.hid (by simp)⟩
              case round =>
                obtain ⟨k, hk, rfl, hB, hall⟩ := hrel
                clear C_tr OM_tr LU Qu_0 KT_tr B_tr
                have C_ur := Lib.hid (C_u.out.below hB)
                have OM_ur := Lib.hid (own_below OM_u.out hB)
                have LU_ur := Lib.hid (LU_u.out.below hB)
                have KT_ur := Lib.hid (KT_u.out.below hB KT_u.out.lt)
                have B_ur := Lib.hid (B_u.out.trans (hB.mono B_u.out.size))
                have Qur := Lib.hid hB
                clear hB
                by_cases hlt : k < nU
                · have hlt' : (k : Int) < (nU : Int) := by omega
                  obtain ⟨g, o, cq, ex, hx, hv, hg, hc⟩ := LU_ur.out.at_ stc_len (show k < (usedC c).length by have := HUU.out; omega)
                  injection hv with hb he hcc
                  subst hb hcc
                  clear he
                  have d0 : wr.cell? ⟨g, o + k, none⟩ = some (.string ex) := by have := hc 0 (by omega); simpa [stc] using this
                  have hkey := key9 ex (HZU.out ex (List.mem_of_getElem? hx))
                  have HAS := Lib.hid (stD_has (netsC c) ex (netsC c).length (Nat.le_refl _))
                  rw [List.take_length] at HAS
                  have HX := Lib.hid hx
                  have hown := OM_ur.out
                  have hws := hown.lt
                  have BX := Lib.hid (B_ur.out.trans ((below_one wr (.cells #[] 91)).mono B_ur.out.size))
                  have QX := Lib.hid (Qur.out.trans ((below_one wr (.cells #[] 91)).mono Qur.out.size))
                  clear hc hx
                  cases hu : usedB (netsC c) ex
                  · rw [hu] at HAS
                    obtain rfl : ex = s := by
                      have := HN.out
                      rw [find_at hall.out HX.out (show noT c ex = true by unfold noT; rw [hu]; rfl)] at this
                      exact Option.some.inj this
                    clear hall HN hu
                    go_wp2_with (first | (at_lookup; refine wpList_lookup_own_unit (H := Unit) _ rfl _ _ 89 rfl 9 91 law9 Tryd.underlying89 (zero91 _) _ (netsC c).length _ rfl hown _ _ rfl hkey ?_; rw [HAS.out]))
                    exact ⟨rfl, rfl, BX.out⟩
                  · rw [hu] at HAS
                    have HNX := Lib.hid (take_next hall.out HX.out (show noT c ex = false by unfold noT; rw [hu]; rfl))
                    clear hall
                    clear hu
                    go_wp2_with (first | (at_lookup; refine wpList_lookup_own_unit (H := Unit) _ rfl _ _ 89 rfl 9 91 law9 Tryd.underlying89 (zero91 _) _ (netsC c).length _ rfl hown _ _ rfl hkey ?_; rw [HAS.out]))
                    refine ⟨⟨k + 1, by omega, by go_num, QX.out, HNX⟩, ?_⟩
                    simp [intOf]; omega
                · exfalso
                  have hn := HN.out
                  rw [find_none (take_whole hall.out (show (usedC c).length ≤ k by have := HUU.out; omega))] at hn
                  cases hn
end Go.Proofs.YtfkmolbcgnkfdaaDoor

/- What is wrong is caught: the closure of Check. -/
namespace Go.Proofs.YtfkmolbcgnkfdaaDoor
open Go.RowKit
attribute [local go_sem] Oper.semAt_some
set_option maxRecDepth 100000
set_option maxHeartbeats 1000000
theorem catch_idle (p q : Addr) (w : World) :
    CallsD Tryd.prog 44 #[.pointer (some p), .pointer (some q)] .returning w fun e u' w' => e = .returned (.tuple #[]) ∧ u' = .returning ∧ w' = w := by
  refine callsD_of_wpS Tryd.func44 rfl fun c₀ cs hu => ?_
  apply wpS_seq
  apply wpS_region
  simp [wpOpsS, go_sem, recoverD, hu, Tryd.ntmps44, Exit.thenS]
  apply wpS_seq
  apply wpS_region
  simp [wpOpsS, go_sem, Exit.thenS]
  refine wpS_cond (t := false) (by simp [Act.eval, Array.replicate]) ?_
  simp only [Bool.false_eq_true, if_false]
  refine wpS_of_wp (wp_skip ?_)
  cases c₀
  simp_all [bodyPostS, results, Tryd.results44]
theorem assert_wrong (a : Int) (s : ByteArray) (wx : World) : (Instr.typeAssert (.iface 60 (.agg #[.int .i64 a, .string s])) 20 60 false).run Tryd.prog wx = .ok (.agg #[.int .i64 a, .string s]) wx := by
  simp [Instr.typeAssert, run_underlying Tryd.underlying60, go_sem, Result.andThen]
theorem catch_panic (B : Nat) (a : Int) (s : ByteArray) (w : World) (b1 : Blk w B #[.int .i64 0] 29) (b2 : Blk w (B + 1) #[.string ⟨#[]⟩] 9) :
    CallsD Tryd.prog 44 #[.pointer (some ⟨B, 0, none⟩), .pointer (some ⟨B + 1, 0, none⟩)] (.panicking [{ v := .iface 60 (.agg #[.int .i64 a, .string s]), recovered := false }]) w fun e u' w' =>
      e = .returned (.tuple #[]) ∧ u' = .panicking [{ v := .iface 60 (.agg #[.int .i64 a, .string s]), recovered := true }] ∧
        Blk w' B #[.int .i64 a] 29 ∧ Blk w' (B + 1) #[.string s] 9 ∧ Below B w w' := by
  refine callsD_of_wpS Tryd.func44 rfl fun c₀ cs hu => ?_
  apply wpS_seq
  apply wpS_region
  simp [wpOpsS, go_sem, recoverD, hu, Tryd.ntmps44, Exit.thenS]
  apply wpS_seq
  apply wpS_region
  simp [wpOpsS, go_sem, Exit.thenS]
  refine wpS_cond (t := true) (by simp [Act.eval, Array.replicate]) ?_
  simp only [if_true]
  refine wpS_of_wp ?_
  have l1 := b1.lt
  have l2 := b2.lt
  have c1 := b1.cell 0
  have c2 := b2.cell 0
  have f1 := b1.frozen 0
  have f2 := b2.frozen 0
  simp at c1 c2
  have has := assert_wrong a s
  simp only [Array.replicate_succ, Array.replicate_zero, List.push_toArray, List.append_toArray, List.nil_append, List.cons_append, List.setIfInBounds_toArray, List.set_cons_zero, List.set_cons_succ]
  go_wp2_with fail
  have b1' := b1.alloc (.cells #[.int .i64 a, .string s] 60)
  have b2' := b2.alloc (.cells #[.int .i64 a, .string s] 60)
  have b3 := Blk.new w #[.int .i64 a, .string s] 60
  have hB0 : Below B w (w.alloc (.cells #[.int .i64 a, .string s] 60)) := (Below.refl B w).alloc (by omega) _
  generalize (w.alloc (.cells #[.int .i64 a, .string s] 60)) = W at *
  have c1 := b1'.cell 0
  have c2 := b2'.cell 0
  have c3 := b3.cell 0
  have c4 := b3.cell 1
  have f1 := b1'.frozen 0
  have f2 := b2'.frozen 0
  simp at c1 c2 c3 c4
  go_region
  have q1 := ((b1'.set 0 (.int .i64 a)).other (B' := B + 1) (by omega) 0 (.string s))
  have q2 := ((b2'.other (B' := B) (by omega) 0 (.int .i64 a)).set 0 (.string s))
  have hb := (hB0.setCell (p := ⟨B, 0, none⟩) (Nat.le_refl _) (.int .i64 a)).setCell (p := ⟨B + 1, 0, none⟩) (by simp) (.string s)
  show bodyPostS Tryd.prog Tryd.f44 c₀ cs _ _ _ _ _
  simp [bodyPostS, results, Tryd.results44]
  exact ⟨q1, q2, hb.trans ⟨rfl, rfl, rfl, Nat.le_refl _, fun _ _ => rfl⟩⟩
end Go.Proofs.YtfkmolbcgnkfdaaDoor

/- Is a netlist one that may be: what is told. -/
namespace Go.Proofs.YtfkmolbcgnkfdaaDoor
open Go.RowKit
attribute [local go_sem] Oper.semAt_some
set_option maxRecDepth 100000
set_option maxHeartbeats 1000000
theorem checkC_eq (c : Ci) : checkC c = if limitB c = true then (8, noneT) else
  match (toldC c).find? noN with
  | some s => (4, s)
  | none => match twiceF [] (netsC c) with
    | some s => (5, s)
    | none => match twiceF [] c.outs with
      | some s => (5, s)
      | none => match partsF c with
        | some t => (t.1, t.2)
        | none => match (usedC c).find? (noT c) with
            | some s => (6, s)
            | none => (0, noneT) := by
  unfold checkC partsF partsG
  change (if limitB c = true then _ else match (toldC c).find? noN with | some s => _ | none => match twiceF [] (netsC c) with | some s => _ | none => match twiceF [] c.outs with | some s => _ | none => match c.las.find? noL with | some l => _ | none => match c.gts.find? noG with | some g => _ | none => match (usedC c).find? (noT c) with | some s => _ | none => _) = _
  cases limitB c
  · cases (toldC c).find? noN
    · cases twiceF [] (netsC c)
      · cases twiceF [] c.outs
        · cases c.las.find? noL
          · cases c.gts.find? noG <;> rfl
          · rfl
        · rfl
      · rfl
    · rfl
  · rfl
theorem parts_none {c : Ci} (h : partsF c = none) : c.las.find? noL = none ∧ c.gts.find? noG = none := by
  unfold partsF partsG at h
  cases h1 : c.las.find? noL <;> rw [h1] at h
  · cases h2 : c.gts.find? noG <;> rw [h2] at h
    · exact ⟨rfl, rfl⟩
    · cases h
  · cases h
theorem gts_get {W : World} {v : Value} {l : List Gt} (h : Gts W v l) (g : Gt) (hg : g ∈ l) : g.name.size ≤ maxLen ∧ (∀ x ∈ g.ins, x.size ≤ maxLen) ∧ (∀ x ∈ g.rows, x.size ≤ maxLen) := by
  obtain ⟨k, hk, rfl⟩ := List.getElem_of_mem hg
  obtain ⟨_, _, _, x, r, hx, ha, _⟩ := h.at_ hk
  rw [List.getElem?_eq_getElem hk] at hx
  cases hx
  exact ⟨ha.size, ha.ins.size, ha.rows.size⟩
theorem nets_size {W : World} {a b l g : Value} {c : Ci} (h : Cir W a b l g c) : ∀ x ∈ netsC c, x.size ≤ maxLen := by
  intro x hx
  unfold netsC at hx
  rcases List.mem_append.1 hx with h1 | h1
  · exact h.ins.size x h1
  · rcases List.mem_append.1 h1 with h2 | h2
    · obtain ⟨y, hy, rfl⟩ := List.mem_map.1 h2
      exact (h.las.size y hy).1
    · obtain ⟨y, hy, rfl⟩ := List.mem_map.1 h2
      exact (gts_get h.gts y hy).1
theorem used_size {W : World} {a b l g : Value} {c : Ci} (h : Cir W a b l g c) : ∀ x ∈ usedC c, x.size ≤ maxLen := by
  intro x hx
  unfold usedC at hx
  rcases List.mem_append.1 hx with h1 | h1
  · exact h.outs.size x h1
  · rcases List.mem_append.1 h1 with h2 | h2
    · obtain ⟨y, hy, rfl⟩ := List.mem_map.1 h2
      exact (h.las.size y hy).2
    · obtain ⟨y, hy, hm⟩ := List.mem_flatMap.1 h2
      exact (gts_get h.gts y hy).2.1 x hm
theorem checkC_l {c : Ci} {X1 : Int} {X2 : ByteArray} (h : checkC c = (X1, X2)) (hl : limitB c = true) : 8 = X1 ∧ noneT = X2 := by
  rw [checkC_eq] at h
  simp only [hl, if_true] at h
  exact ⟨congrArg Prod.fst h, congrArg Prod.snd h⟩
theorem checkC_n {c : Ci} {X1 : Int} {X2 : ByteArray} {t : ByteArray} (h : checkC c = (X1, X2)) (hl : limitB c = false) (hn : (toldC c).find? noN = some t) : 4 = X1 ∧ t = X2 := by
  rw [checkC_eq] at h
  simp only [hl, hn, if_false, Bool.false_eq_true] at h
  exact ⟨congrArg Prod.fst h, congrArg Prod.snd h⟩
theorem checkC_t {c : Ci} {X1 : Int} {X2 : ByteArray} {t : ByteArray} (h : checkC c = (X1, X2)) (hl : limitB c = false) (hn : (toldC c).find? noN = none) (ht : twiceF [] (netsC c) = some t) : 5 = X1 ∧ t = X2 := by
  rw [checkC_eq] at h
  simp only [hl, hn, ht, if_false, Bool.false_eq_true] at h
  exact ⟨congrArg Prod.fst h, congrArg Prod.snd h⟩
theorem checkC_o {c : Ci} {X1 : Int} {X2 : ByteArray} {t : ByteArray} (h : checkC c = (X1, X2)) (hl : limitB c = false) (hn : (toldC c).find? noN = none) (ht : twiceF [] (netsC c) = none) (ho : twiceF [] c.outs = some t) : 5 = X1 ∧ t = X2 := by
  rw [checkC_eq] at h
  simp only [hl, hn, ht, ho, if_false, Bool.false_eq_true] at h
  exact ⟨congrArg Prod.fst h, congrArg Prod.snd h⟩
theorem checkC_p {c : Ci} {X1 : Int} {X2 : ByteArray} {t : Int × ByteArray} (h : checkC c = (X1, X2)) (hl : limitB c = false) (hn : (toldC c).find? noN = none) (ht : twiceF [] (netsC c) = none) (ho : twiceF [] c.outs = none) (hp : partsF c = some t) : t.1 = X1 ∧ t.2 = X2 := by
  rw [checkC_eq] at h
  simp only [hl, hn, ht, ho, hp, if_false, Bool.false_eq_true] at h
  exact ⟨congrArg Prod.fst h, congrArg Prod.snd h⟩
theorem checkC_u {c : Ci} {X1 : Int} {X2 : ByteArray} {t : ByteArray} (h : checkC c = (X1, X2)) (hl : limitB c = false) (hn : (toldC c).find? noN = none) (ht : twiceF [] (netsC c) = none) (ho : twiceF [] c.outs = none) (hp : partsF c = none) (hu : (usedC c).find? (noT c) = some t) : 6 = X1 ∧ t = X2 := by
  rw [checkC_eq] at h
  simp only [hl, hn, ht, ho, hp, hu, if_false, Bool.false_eq_true] at h
  exact ⟨congrArg Prod.fst h, congrArg Prod.snd h⟩
theorem checkC_ok {c : Ci} {X1 : Int} {X2 : ByteArray} (h : checkC c = (X1, X2)) (hl : limitB c = false) (hn : (toldC c).find? noN = none) (ht : twiceF [] (netsC c) = none) (ho : twiceF [] c.outs = none) (hp : partsF c = none) (hu : (usedC c).find? (noT c) = none) : 0 = X1 ∧ noneT = X2 := by
  rw [checkC_eq] at h
  simp only [hl, hn, ht, ho, hp, hu, if_false, Bool.false_eq_true] at h
  exact ⟨congrArg Prod.fst h, congrArg Prod.snd h⟩
theorem check_any (c : Ci) (a b l g : Value) (w : World) (h : Cir w a b l g c) (hf : Few c) (hg : FewG c.gts) (hz : FewZ c.gts) :
    Calls Tryd.prog 15 #[.agg #[a, b, l, g]] w fun e w' => e = .returned (.tuple #[.int .i64 (checkC c).1, .string (checkC c).2]) ∧ Below w.heap.size w w' := by
  have hmf : ∀ (fn : Fn) (first cap : Array Value) (w : World), (Instr.makeFunc fn first cap).run Tryd.prog w = .ok (.func fn first cap) w := fun _ _ _ _ => rfl
  have H := Lib.hid h
  obtain ⟨pa, qa, pb, qb, pl, ql, pg, qg, rfl, rfl, rfl, rfl⟩ := h.slices
  obtain ⟨X1, hX1⟩ : ∃ x, (checkC c).1 = x := ⟨_, rfl⟩
  obtain ⟨X2, hX2⟩ : ∃ x, (checkC c).2 = x := ⟨_, rfl⟩
  rw [hX1, hX2]
  have HZN := Lib.hid (nets_size h)
  have HZU := Lib.hid (used_size h)
  have HNL := Lib.hid (netsC_few hf)
  have HO := Lib.hid hf.outs
  have HF := Lib.hid hf
  have HG := Lib.hid hg
  have HZ := Lib.hid hz
  have HE := Lib.hid (show checkC c = (X1, X2) by rw [← hX1, ← hX2])
  clear h hf hg hz hX1 hX2
  go_enter_defers Tryd.func15, Tryd.ntmps15
  go_wp2_with fail
  have a1 : Below w.heap.size w (((w.alloc (.cells #[.slice pa c.ins.length qa, .slice pb c.outs.length qb, .slice pl c.las.length ql, .slice pg c.gts.length qg] 26)).alloc (.cells #[.int .i64 0] 29)).alloc (.cells #[.string ⟨#[]⟩] 9)) := ((((Below.refl w.heap.size w).alloc (by first | exact Nat.le_refl _ | (simp only [World.size_alloc]; omega)) (.cells #[.slice pa c.ins.length qa, .slice pb c.outs.length qb, .slice pl c.las.length ql, .slice pg c.gts.length qg] 26)).alloc (by first | exact Nat.le_refl _ | (simp only [World.size_alloc]; omega)) (.cells #[.int .i64 0] 29)).alloc (by first | exact Nat.le_refl _ | (simp only [World.size_alloc]; omega)) (.cells #[.string ⟨#[]⟩] 9))
  have T_new0 := (((Blk.new w #[.slice pa c.ins.length qa, .slice pb c.outs.length qb, .slice pl c.las.length ql, .slice pg c.gts.length qg] 26).alloc (.cells #[.int .i64 0] 29)).alloc (.cells #[.string ⟨#[]⟩] 9))
  have KT_00 := Lib.hid T_new0
  clear T_new0
  have E_new0 := ((Blk.new (w.alloc (.cells #[.slice pa c.ins.length qa, .slice pb c.outs.length qb, .slice pl c.las.length ql, .slice pg c.gts.length qg] 26)) #[.int .i64 0] 29).alloc (.cells #[.string ⟨#[]⟩] 9))
  rw [World.size_alloc] at E_new0
  have KE_00 := Lib.hid E_new0
  clear E_new0
  have S_new0 := (Blk.new ((w.alloc (.cells #[.slice pa c.ins.length qa, .slice pb c.outs.length qb, .slice pl c.las.length ql, .slice pg c.gts.length qg] 26)).alloc (.cells #[.int .i64 0] 29)) #[.string ⟨#[]⟩] 9)
  simp only [World.size_alloc, Nat.add_assoc, Nat.reduceAdd] at S_new0
  have KS_00 := Lib.hid S_new0
  clear S_new0
  have C_1 := Lib.hid (H.out.below a1)
  clear H
  have B_1 := Lib.hid a1
  clear a1
  generalize (((w.alloc (.cells #[.slice pa c.ins.length qa, .slice pb c.outs.length qb, .slice pl c.las.length ql, .slice pg c.gts.length qg] 26)).alloc (.cells #[.int .i64 0] 29)).alloc (.cells #[.string ⟨#[]⟩] 9)) = w1 at C_1 KT_00 KE_00 KS_00 B_1 ⊢
  obtain ⟨ql, hl⟩ : ∃ q, limitB c = q := ⟨_, rfl⟩
  have Hl := Lib.hid hl
  clear hl
  cases ql
  · refine (lim_ok c _ _ _ _ _ C_1.out HF.out Hl.out).mono ?_
    rintro e w2 ⟨rfl, b2⟩
    have C_2 := Lib.hid (C_1.out.below b2)
    clear C_1
    have KT_2 := Lib.hid (KT_00.out.below b2 KT_00.out.lt)
    clear KT_00
    have KE_2 := Lib.hid (KE_00.out.below b2 KE_00.out.lt)
    clear KE_00
    have KS_2 := Lib.hid (KS_00.out.below b2 KS_00.out.lt)
    clear KS_00
    have B_2 := Lib.hid (B_1.out.trans (b2.mono B_1.out.size))
    clear B_1
    clear b2
    have lT_2 : w.heap.size < w2.heap.size := KT_2.out.lt
    have cT_0_2 : w2.cell? ⟨w.heap.size, 0, none⟩ = some (.slice pa c.ins.length qa) := KT_2.out.cell 0
    have cT_1_2 : w2.cell? ⟨w.heap.size, 1, none⟩ = some (.slice pb c.outs.length qb) := KT_2.out.cell 1
    have cT_2_2 : w2.cell? ⟨w.heap.size, 2, none⟩ = some (.slice pl c.las.length ql) := KT_2.out.cell 2
    have cT_3_2 : w2.cell? ⟨w.heap.size, 3, none⟩ = some (.slice pg c.gts.length qg) := KT_2.out.cell 3
    go_wp2_with fail
    obtain ⟨qn, hn⟩ : ∃ q, (toldC c).find? noN = q := ⟨_, rfl⟩
    have Hn := Lib.hid hn
    clear hn
    rcases qn with _ | xn
    · clear lT_2 cT_0_2 cT_1_2 cT_2_2 cT_3_2
      refine (cnames_ok c _ _ _ _ _ C_2.out HF.out HG.out Hn.out).mono ?_
      rintro e w3 ⟨rfl, b3⟩
      have C_3 := Lib.hid (C_2.out.below b3)
      clear C_2
      have KT_3 := Lib.hid (KT_2.out.below b3 KT_2.out.lt)
      clear KT_2
      have KE_3 := Lib.hid (KE_2.out.below b3 KE_2.out.lt)
      clear KE_2
      have KS_3 := Lib.hid (KS_2.out.below b3 KS_2.out.lt)
      clear KS_2
      have B_3 := Lib.hid (B_2.out.trans (b3.mono B_2.out.size))
      clear B_2
      clear b3
      have lT_3 : w.heap.size < w3.heap.size := KT_3.out.lt
      have cT_0_3 : w3.cell? ⟨w.heap.size, 0, none⟩ = some (.slice pa c.ins.length qa) := KT_3.out.cell 0
      have cT_1_3 : w3.cell? ⟨w.heap.size, 1, none⟩ = some (.slice pb c.outs.length qb) := KT_3.out.cell 1
      have cT_2_3 : w3.cell? ⟨w.heap.size, 2, none⟩ = some (.slice pl c.las.length ql) := KT_3.out.cell 2
      have cT_3_3 : w3.cell? ⟨w.heap.size, 3, none⟩ = some (.slice pg c.gts.length qg) := KT_3.out.cell 3
      go_wp2_with fail
      clear lT_3 cT_0_3 cT_1_3 cT_2_3 cT_3_3
      refine (nets_any c _ _ _ _ _ C_3.out HF.out).mono ?_
      rintro e w4 ⟨v1, rfl, r1, b4⟩
      have C_4 := Lib.hid (C_3.out.below b4)
      clear C_3
      have KT_4 := Lib.hid (KT_3.out.below b4 KT_3.out.lt)
      clear KT_3
      have KE_4 := Lib.hid (KE_3.out.below b4 KE_3.out.lt)
      clear KE_3
      have KS_4 := Lib.hid (KS_3.out.below b4 KS_3.out.lt)
      clear KS_3
      have B_4 := Lib.hid (B_3.out.trans (b4.mono B_3.out.size))
      clear B_3
      clear b4
      have LN := Lib.hid (Lst.of_row r1)
      clear r1
      go_wp2_with fail
      obtain ⟨qt, ht⟩ : ∃ q, twiceF [] (netsC c) = q := ⟨_, rfl⟩
      have Ht := Lib.hid ht
      clear ht
      rcases qt with _ | xt
      · refine (two_ok (netsC c) _ _ (by have := HNL.out; omega) HZN.out LN.out Ht.out).mono ?_
        rintro e w5 ⟨rfl, b5⟩
        have C_5 := Lib.hid (C_4.out.below b5)
        clear C_4
        have LN_5 := Lib.hid (LN.out.below b5)
        clear LN
        have KT_5 := Lib.hid (KT_4.out.below b5 KT_4.out.lt)
        clear KT_4
        have KE_5 := Lib.hid (KE_4.out.below b5 KE_4.out.lt)
        clear KE_4
        have KS_5 := Lib.hid (KS_4.out.below b5 KS_4.out.lt)
        clear KS_4
        have B_5 := Lib.hid (B_4.out.trans (b5.mono B_4.out.size))
        clear B_4
        clear b5
        clear LN_5
        have lT_5 : w.heap.size < w5.heap.size := KT_5.out.lt
        have cT_0_5 : w5.cell? ⟨w.heap.size, 0, none⟩ = some (.slice pa c.ins.length qa) := KT_5.out.cell 0
        have cT_1_5 : w5.cell? ⟨w.heap.size, 1, none⟩ = some (.slice pb c.outs.length qb) := KT_5.out.cell 1
        have cT_2_5 : w5.cell? ⟨w.heap.size, 2, none⟩ = some (.slice pl c.las.length ql) := KT_5.out.cell 2
        have cT_3_5 : w5.cell? ⟨w.heap.size, 3, none⟩ = some (.slice pg c.gts.length qg) := KT_5.out.cell 3
        go_wp2_with fail
        obtain ⟨qo, ho⟩ : ∃ q, twiceF [] c.outs = q := ⟨_, rfl⟩
        have Ho := Lib.hid ho
        clear ho
        rcases qo with _ | xo
        · clear lT_5 cT_0_5 cT_1_5 cT_2_5 cT_3_5
          refine (two_ok c.outs _ _ (by have := HO.out; omega) C_5.out.outs.size C_5.out.outs.lst Ho.out).mono ?_
          rintro e w6 ⟨rfl, b6⟩
          have C_6 := Lib.hid (C_5.out.below b6)
          clear C_5
          have KT_6 := Lib.hid (KT_5.out.below b6 KT_5.out.lt)
          clear KT_5
          have KE_6 := Lib.hid (KE_5.out.below b6 KE_5.out.lt)
          clear KE_5
          have KS_6 := Lib.hid (KS_5.out.below b6 KS_5.out.lt)
          clear KS_5
          have B_6 := Lib.hid (B_5.out.trans (b6.mono B_5.out.size))
          clear B_5
          clear b6
          have lT_6 : w.heap.size < w6.heap.size := KT_6.out.lt
          have cT_0_6 : w6.cell? ⟨w.heap.size, 0, none⟩ = some (.slice pa c.ins.length qa) := KT_6.out.cell 0
          have cT_1_6 : w6.cell? ⟨w.heap.size, 1, none⟩ = some (.slice pb c.outs.length qb) := KT_6.out.cell 1
          have cT_2_6 : w6.cell? ⟨w.heap.size, 2, none⟩ = some (.slice pl c.las.length ql) := KT_6.out.cell 2
          have cT_3_6 : w6.cell? ⟨w.heap.size, 3, none⟩ = some (.slice pg c.gts.length qg) := KT_6.out.cell 3
          go_wp2_with fail
          obtain ⟨qp, hp⟩ : ∃ q, partsF c = q := ⟨_, rfl⟩
          have Hp := Lib.hid hp
          clear hp
          rcases qp with _ | xp
          · clear lT_6 cT_0_6 cT_1_6 cT_2_6 cT_3_6
            refine (parts_ok c _ _ _ _ _ C_6.out HF.out HG.out HZ.out (parts_none Hp.out).1 (parts_none Hp.out).2).mono ?_
            rintro e w7 ⟨rfl, b7⟩
            have C_7 := Lib.hid (C_6.out.below b7)
            clear C_6
            have KT_7 := Lib.hid (KT_6.out.below b7 KT_6.out.lt)
            clear KT_6
            have KE_7 := Lib.hid (KE_6.out.below b7 KE_6.out.lt)
            clear KE_6
            have KS_7 := Lib.hid (KS_6.out.below b7 KS_6.out.lt)
            clear KS_6
            have B_7 := Lib.hid (B_6.out.trans (b7.mono B_6.out.size))
            clear B_6
            clear b7
            have lT_7 : w.heap.size < w7.heap.size := KT_7.out.lt
            have cT_0_7 : w7.cell? ⟨w.heap.size, 0, none⟩ = some (.slice pa c.ins.length qa) := KT_7.out.cell 0
            have cT_1_7 : w7.cell? ⟨w.heap.size, 1, none⟩ = some (.slice pb c.outs.length qb) := KT_7.out.cell 1
            have cT_2_7 : w7.cell? ⟨w.heap.size, 2, none⟩ = some (.slice pl c.las.length ql) := KT_7.out.cell 2
            have cT_3_7 : w7.cell? ⟨w.heap.size, 3, none⟩ = some (.slice pg c.gts.length qg) := KT_7.out.cell 3
            go_wp2_with fail
            obtain ⟨qu, hu⟩ : ∃ q, (usedC c).find? (noT c) = q := ⟨_, rfl⟩
            have Hu := Lib.hid hu
            clear hu
            rcases qu with _ | xu
            · clear lT_7 cT_0_7 cT_1_7 cT_2_7 cT_3_7
              refine (there_ok c _ _ _ _ _ C_7.out HF.out HG.out HZN.out HZU.out Hu.out).mono ?_
              rintro e w8 ⟨rfl, b8⟩
              have C_8 := Lib.hid (C_7.out.below b8)
              clear C_7
              have KT_8 := Lib.hid (KT_7.out.below b8 KT_7.out.lt)
              clear KT_7
              have KE_8 := Lib.hid (KE_7.out.below b8 KE_7.out.lt)
              clear KE_7
              have KS_8 := Lib.hid (KS_7.out.below b8 KS_7.out.lt)
              clear KS_7
              have B_8 := Lib.hid (B_7.out.trans (b8.mono B_7.out.size))
              clear B_7
              clear b8
              have HX := checkC_ok HE.out Hl.out Hn.out Ht.out Ho.out Hp.out Hu.out
              clear HE
              have HXX := Lib.hid HX
              clear HX
              have q1 := ((KE_8.out.set 0 (.int .i64 0)).other (B' := w.heap.size + 1 + 1) (by omega) 0 (.string ⟨#[]⟩))
              have q2 := ((KS_8.out.other (B' := w.heap.size + 1) (by omega) 0 (.int .i64 0)).set 0 (.string ⟨#[]⟩))
              have HB3 := Lib.hid ((B_8.out.setCell (p := ⟨w.heap.size + 1, 0, none⟩) (by simp) (.int .i64 0)).setCell (p := ⟨w.heap.size + 1 + 1, 0, none⟩) (by simp; omega) (.string ⟨#[]⟩))
              have Q1 := Lib.hid q1
              have Q2 := Lib.hid q2
              clear q1 q2
              have e1 := KE_8.out.frozen 0
              have e2 := KS_8.out.frozen 0
              have lE_8 : w.heap.size + 1 < w8.heap.size := KE_8.out.lt
              have cE_0_8 : w8.cell? ⟨w.heap.size + 1, 0, none⟩ = some (.int .i64 0) := KE_8.out.cell 0
              have lS_8 : w.heap.size + 2 < w8.heap.size := KS_8.out.lt
              have cS_0_8 : w8.cell? ⟨w.heap.size + 2, 0, none⟩ = some (.string ⟨#[]⟩) := KS_8.out.cell 0
              go_wp2
              generalize ((w8.setCell ⟨w.heap.size + 1, 0, none⟩ (.int .i64 0)).setCell ⟨w.heap.size + 1 + 1, 0, none⟩ (.string ⟨#[]⟩)) = WX at Q1 Q2 HB3 ⊢
              have d1 := Q1.out.cell 0
              have d2 := Q2.out.cell 0
              simp at d1 d2
              refine leaves_cons (f := 44) (args := #[.pointer (some ⟨w.heap.size + 1, 0, none⟩), .pointer (some ⟨w.heap.size + 1 + 1, 0, none⟩)]) (by simp) (by simp [go_sem]) ?_
              refine (catch_idle _ _ _).mono ?_
              rintro e u' w'' ⟨rfl, rfl, rfl⟩
              simp [Leaves, settle, results, Tryd.results15, go_sem, d1, d2]
              exact ⟨⟨HXX.out.1, HXX.out.2⟩, HB3.out⟩
            · clear lT_7 cT_0_7 cT_1_7 cT_2_7 cT_3_7
              refine (there_bad c _ _ _ _ xu _ C_7.out HF.out HG.out HZN.out HZU.out Hu.out).mono ?_
              rintro e w8 ⟨rfl, b8⟩
              have C_8 := Lib.hid (C_7.out.below b8)
              clear C_7
              have KT_8 := Lib.hid (KT_7.out.below b8 KT_7.out.lt)
              clear KT_7
              have KE_8 := Lib.hid (KE_7.out.below b8 KE_7.out.lt)
              clear KE_7
              have KS_8 := Lib.hid (KS_7.out.below b8 KS_7.out.lt)
              clear KS_7
              have B_8 := Lib.hid (B_7.out.trans (b8.mono B_7.out.size))
              clear B_7
              clear b8
              have HX := checkC_u HE.out Hl.out Hn.out Ht.out Ho.out Hp.out Hu.out
              clear HE
              refine leaves_cons (f := 44) (args := #[.pointer (some ⟨w.heap.size + 1, 0, none⟩), .pointer (some ⟨w.heap.size + 1 + 1, 0, none⟩)]) (by simp) (by simp [go_sem]) ?_
              refine (catch_panic (w.heap.size + 1) 6 xu _ KE_8.out KS_8.out).mono ?_
              rintro e u' w'' ⟨rfl, rfl, d1, d2, hb4⟩
              have d1' := d1.cell 0
              have d2' := d2.cell 0
              simp at d1' d2'
              have HB4 := Lib.hid (B_8.out.trans (hb4.mono (by omega)))
              clear hb4
              simp [Leaves, settle, results, Tryd.results15, go_sem, d1', d2']
              exact ⟨⟨HX.1, HX.2⟩, HB4.out⟩
          · clear lT_6 cT_0_6 cT_1_6 cT_2_6 cT_3_6
            refine (parts_bad c _ _ _ _ xp.1 xp.2 _ C_6.out HF.out HG.out HZ.out Hp.out).mono ?_
            rintro e w7 ⟨rfl, b7⟩
            have C_7 := Lib.hid (C_6.out.below b7)
            clear C_6
            have KT_7 := Lib.hid (KT_6.out.below b7 KT_6.out.lt)
            clear KT_6
            have KE_7 := Lib.hid (KE_6.out.below b7 KE_6.out.lt)
            clear KE_6
            have KS_7 := Lib.hid (KS_6.out.below b7 KS_6.out.lt)
            clear KS_6
            have B_7 := Lib.hid (B_6.out.trans (b7.mono B_6.out.size))
            clear B_6
            clear b7
            have HX := checkC_p HE.out Hl.out Hn.out Ht.out Ho.out Hp.out
            clear HE
            refine leaves_cons (f := 44) (args := #[.pointer (some ⟨w.heap.size + 1, 0, none⟩), .pointer (some ⟨w.heap.size + 1 + 1, 0, none⟩)]) (by simp) (by simp [go_sem]) ?_
            refine (catch_panic (w.heap.size + 1) xp.1 xp.2 _ KE_7.out KS_7.out).mono ?_
            rintro e u' w'' ⟨rfl, rfl, d1, d2, hb4⟩
            have d1' := d1.cell 0
            have d2' := d2.cell 0
            simp at d1' d2'
            have HB4 := Lib.hid (B_7.out.trans (hb4.mono (by omega)))
            clear hb4
            simp [Leaves, settle, results, Tryd.results15, go_sem, d1', d2']
            exact ⟨⟨HX.1, HX.2⟩, HB4.out⟩
        · clear lT_5 cT_0_5 cT_1_5 cT_2_5 cT_3_5
          refine (two_bad c.outs _ xo _ (by have := HO.out; omega) C_5.out.outs.size C_5.out.outs.lst Ho.out).mono ?_
          rintro e w6 ⟨rfl, b6⟩
          have C_6 := Lib.hid (C_5.out.below b6)
          clear C_5
          have KT_6 := Lib.hid (KT_5.out.below b6 KT_5.out.lt)
          clear KT_5
          have KE_6 := Lib.hid (KE_5.out.below b6 KE_5.out.lt)
          clear KE_5
          have KS_6 := Lib.hid (KS_5.out.below b6 KS_5.out.lt)
          clear KS_5
          have B_6 := Lib.hid (B_5.out.trans (b6.mono B_5.out.size))
          clear B_5
          clear b6
          have HX := checkC_o HE.out Hl.out Hn.out Ht.out Ho.out
          clear HE
          refine leaves_cons (f := 44) (args := #[.pointer (some ⟨w.heap.size + 1, 0, none⟩), .pointer (some ⟨w.heap.size + 1 + 1, 0, none⟩)]) (by simp) (by simp [go_sem]) ?_
          refine (catch_panic (w.heap.size + 1) 5 xo _ KE_6.out KS_6.out).mono ?_
          rintro e u' w'' ⟨rfl, rfl, d1, d2, hb4⟩
          have d1' := d1.cell 0
          have d2' := d2.cell 0
          simp at d1' d2'
          have HB4 := Lib.hid (B_6.out.trans (hb4.mono (by omega)))
          clear hb4
          simp [Leaves, settle, results, Tryd.results15, go_sem, d1', d2']
          exact ⟨⟨HX.1, HX.2⟩, HB4.out⟩
      · refine (two_bad (netsC c) _ xt _ (by have := HNL.out; omega) HZN.out LN.out Ht.out).mono ?_
        rintro e w5 ⟨rfl, b5⟩
        have C_5 := Lib.hid (C_4.out.below b5)
        clear C_4
        have LN_5 := Lib.hid (LN.out.below b5)
        clear LN
        have KT_5 := Lib.hid (KT_4.out.below b5 KT_4.out.lt)
        clear KT_4
        have KE_5 := Lib.hid (KE_4.out.below b5 KE_4.out.lt)
        clear KE_4
        have KS_5 := Lib.hid (KS_4.out.below b5 KS_4.out.lt)
        clear KS_4
        have B_5 := Lib.hid (B_4.out.trans (b5.mono B_4.out.size))
        clear B_4
        clear b5
        have HX := checkC_t HE.out Hl.out Hn.out Ht.out
        clear HE
        refine leaves_cons (f := 44) (args := #[.pointer (some ⟨w.heap.size + 1, 0, none⟩), .pointer (some ⟨w.heap.size + 1 + 1, 0, none⟩)]) (by simp) (by simp [go_sem]) ?_
        refine (catch_panic (w.heap.size + 1) 5 xt _ KE_5.out KS_5.out).mono ?_
        rintro e u' w'' ⟨rfl, rfl, d1, d2, hb4⟩
        have d1' := d1.cell 0
        have d2' := d2.cell 0
        simp at d1' d2'
        have HB4 := Lib.hid (B_5.out.trans (hb4.mono (by omega)))
        clear hb4
        simp [Leaves, settle, results, Tryd.results15, go_sem, d1', d2']
        exact ⟨⟨HX.1, HX.2⟩, HB4.out⟩
    · clear lT_2 cT_0_2 cT_1_2 cT_2_2 cT_3_2
      refine (cnames_bad c _ _ _ _ xn _ C_2.out HF.out HG.out Hn.out).mono ?_
      rintro e w3 ⟨rfl, b3⟩
      have C_3 := Lib.hid (C_2.out.below b3)
      clear C_2
      have KT_3 := Lib.hid (KT_2.out.below b3 KT_2.out.lt)
      clear KT_2
      have KE_3 := Lib.hid (KE_2.out.below b3 KE_2.out.lt)
      clear KE_2
      have KS_3 := Lib.hid (KS_2.out.below b3 KS_2.out.lt)
      clear KS_2
      have B_3 := Lib.hid (B_2.out.trans (b3.mono B_2.out.size))
      clear B_2
      clear b3
      have HX := checkC_n HE.out Hl.out Hn.out
      clear HE
      refine leaves_cons (f := 44) (args := #[.pointer (some ⟨w.heap.size + 1, 0, none⟩), .pointer (some ⟨w.heap.size + 1 + 1, 0, none⟩)]) (by simp) (by simp [go_sem]) ?_
      refine (catch_panic (w.heap.size + 1) 4 xn _ KE_3.out KS_3.out).mono ?_
      rintro e u' w'' ⟨rfl, rfl, d1, d2, hb4⟩
      have d1' := d1.cell 0
      have d2' := d2.cell 0
      simp at d1' d2'
      have HB4 := Lib.hid (B_3.out.trans (hb4.mono (by omega)))
      clear hb4
      simp [Leaves, settle, results, Tryd.results15, go_sem, d1', d2']
      exact ⟨⟨HX.1, HX.2⟩, HB4.out⟩
  · refine (lim_bad c _ _ _ _ _ C_1.out HF.out Hl.out).mono ?_
    rintro e w2 ⟨rfl, b2⟩
    have C_2 := Lib.hid (C_1.out.below b2)
    clear C_1
    have KT_2 := Lib.hid (KT_00.out.below b2 KT_00.out.lt)
    clear KT_00
    have KE_2 := Lib.hid (KE_00.out.below b2 KE_00.out.lt)
    clear KE_00
    have KS_2 := Lib.hid (KS_00.out.below b2 KS_00.out.lt)
    clear KS_00
    have B_2 := Lib.hid (B_1.out.trans (b2.mono B_1.out.size))
    clear B_1
    clear b2
    have HX := checkC_l HE.out Hl.out
    clear HE
    refine leaves_cons (f := 44) (args := #[.pointer (some ⟨w.heap.size + 1, 0, none⟩), .pointer (some ⟨w.heap.size + 1 + 1, 0, none⟩)]) (by simp) (by simp [go_sem]) ?_
    refine (catch_panic (w.heap.size + 1) 8 noneT _ KE_2.out KS_2.out).mono ?_
    rintro e u' w'' ⟨rfl, rfl, d1, d2, hb4⟩
    have d1' := d1.cell 0
    have d2' := d2.cell 0
    simp at d1' d2'
    have HB4 := Lib.hid (B_2.out.trans (hb4.mono (by omega)))
    clear hb4
    simp [Leaves, settle, results, Tryd.results15, go_sem, d1', d2']
    exact ⟨⟨HX.1, HX.2⟩, HB4.out⟩
end Go.Proofs.YtfkmolbcgnkfdaaDoor
