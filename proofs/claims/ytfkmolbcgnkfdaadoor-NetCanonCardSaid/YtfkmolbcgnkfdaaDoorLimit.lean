/- Is there too much; rows of signs; may a gate be, as the document has it. -/
import Derived.Test.YtfkmolbcgnkfdaaDoorRSame
namespace Go.Proofs.YtfkmolbcgnkfdaaDoor
open Go.RowKit
attribute [local go_sem] Oper.semAt_some
set_option maxRecDepth 100000
set_option maxHeartbeats 1000000

theorem limit_big {c : Ci} {g : Gt} (hg : g ∈ c.gts) (h : bigG g = true) : limitB c = true := by
  unfold limitB
  rw [show c.gts.any bigG = true from List.any_eq_true.2 ⟨g, hg, h⟩]
  simp
theorem limit_not {c : Ci} (h : ∀ g ∈ c.gts, bigG g = false) : limitB c = (decide (200 < c.ins.length + c.las.length + c.gts.length) || decide (200 < c.outs.length)) := by
  unfold limitB
  rw [show c.gts.any bigG = false from List.any_eq_false.2 (fun g hg => by rw [h g hg]; simp)]
  simp
theorem take_next {α : Type} {p : α → Prop} {l : List α} {k : Nat} {x : α} (h : ∀ y ∈ l.take k, p y) (hx : l[k]? = some x) (hp : p x) : ∀ y ∈ l.take (k + 1), p y := by
  intro y hy
  rw [List.take_add_one, hx] at hy
  rcases List.mem_append.1 hy with hy | hy
  · exact h y hy
  · simp at hy
    rw [hy]
    exact hp
theorem take_whole {α : Type} {p : α → Prop} {l : List α} {k : Nat} (h : ∀ y ∈ l.take k, p y) (hk : l.length ≤ k) : ∀ y ∈ l, p y := by rwa [List.take_of_length_le hk] at h
theorem bigG_yes {g : Gt} (h : 8 < g.ins.length ∨ 128 < g.rows.length) : bigG g = true := by
  unfold bigG
  rcases h with h | h <;> simp [h]
theorem bigG_no {g : Gt} (h1 : ¬ 8 < g.ins.length) (h2 : ¬ 128 < g.rows.length) : bigG g = false := by
  unfold bigG
  rw [decide_eq_false h1, decide_eq_false h2]
  rfl

theorem limit_any (c : Ci) (a b l g : Value) (w : World) (h : Cir w a b l g c) (hf : Few c) :
    Calls Tryd.prog 50 #[.agg #[a, b, l, g]] w fun e w' => e = .returned (.bool (limitB c)) ∧ Below w.heap.size w w' := by
  have H := Lib.hid h
  obtain ⟨pa, qa, pb, qb, pl, ql, pg, qg, rfl, rfl, rfl, rfl⟩ := h.slices
  have hf1 := hf.ins
  have hf2 := hf.outs
  have hf3 := hf.las
  have hf4 := hf.gts
  clear h hf
  obtain ⟨q, hq⟩ : ∃ q, limitB c = q := ⟨_, rfl⟩
  rw [hq]
  have HQ := Lib.hid hq
  clear hq
  go_enter Tryd.func50, Tryd.ntmps50
  have a1 : Below w.heap.size w (w.alloc (.cells #[.slice pa c.ins.length qa, .slice pb c.outs.length qb, .slice pl c.las.length ql, .slice pg c.gts.length qg] 26)) := ((Below.refl w.heap.size w).alloc (by first | exact Nat.le_refl _ | (simp only [World.size_alloc]; omega)) (.cells #[.slice pa c.ins.length qa, .slice pb c.outs.length qb, .slice pl c.las.length ql, .slice pg c.gts.length qg] 26))
  have T_new0 := (Blk.new w #[.slice pa c.ins.length qa, .slice pb c.outs.length qb, .slice pl c.las.length ql, .slice pg c.gts.length qg] 26)
  have KT_00 := Lib.hid T_new0
  clear T_new0
  have C_1 := Lib.hid (H.out.below a1)
  clear H
  have B_1 := Lib.hid a1
  clear a1
  go_wp2
  generalize (w.alloc (.cells #[.slice pa c.ins.length qa, .slice pb c.outs.length qb, .slice pl c.las.length ql, .slice pg c.gts.length qg] 26)) = w1 at * 
  go_loop [3] (fun i => ∃ k : Nat, k ≤ c.gts.length ∧ i = .int .i64 (k : Int) ∧ Hid (∀ g ∈ c.gts.take k, bigG g = false)) (fun i => c.gts.length - (intOf i).toNat)
  case atStart => exact ⟨0, by omega, rfl, Lib.hid (by simp)⟩
  case round =>
    obtain ⟨k, hk, rfl, hall⟩ := hrel
    by_cases hlt : k < c.gts.length
    · have hlt' : (k : Int) < (c.gts.length : Int) := by omega
      obtain ⟨eg, eo, ec, ex, er, hx, ha, hv, hg, d0, d1, d2, d3, d4⟩ := C_1.out.gts.at_ hlt
      obtain ⟨pi, qi, ei⟩ := ha.ins.lst.slice
      obtain ⟨pr, qr, er'⟩ := ha.rows.lst.slice
      rw [ei] at d2
      rw [er'] at d3
      clear ha ei er'
      injection hv with e1 e2 e3
      subst e1 e3
      clear e2
      have HX := Lib.hid hx
      clear hx
      by_cases g1 : (8 : Int) < (ex.ins.length : Int)
      · obtain rfl : q = true := by rw [← HQ.out]; exact limit_big (List.mem_of_getElem? HX.out) (bigG_yes (by omega))
        clear hall HQ
        have lT_1 : w.heap.size < w1.heap.size := KT_00.out.lt
        have cT_0_1 : w1.cell? ⟨w.heap.size, 0, none⟩ = some (.slice pa c.ins.length qa) := KT_00.out.cell 0
        have cT_1_1 : w1.cell? ⟨w.heap.size, 1, none⟩ = some (.slice pb c.outs.length qb) := KT_00.out.cell 1
        have cT_2_1 : w1.cell? ⟨w.heap.size, 2, none⟩ = some (.slice pl c.las.length ql) := KT_00.out.cell 2
        have cT_3_1 : w1.cell? ⟨w.heap.size, 3, none⟩ = some (.slice (some ⟨eg, eo, none⟩) c.gts.length qg) := KT_00.out.cell 3
        go_wp2
        go_ret
        exact ⟨rfl, B_1.out⟩
      · have g1' : decide ((8 : Int) < (ex.ins.length : Int)) = false := decide_eq_false g1
        by_cases g2 : (128 : Int) < (ex.rows.length : Int)
        · obtain rfl : q = true := by rw [← HQ.out]; exact limit_big (List.mem_of_getElem? HX.out) (bigG_yes (by omega))
          clear hall HQ
          have lT_1 : w.heap.size < w1.heap.size := KT_00.out.lt
          have cT_0_1 : w1.cell? ⟨w.heap.size, 0, none⟩ = some (.slice pa c.ins.length qa) := KT_00.out.cell 0
          have cT_1_1 : w1.cell? ⟨w.heap.size, 1, none⟩ = some (.slice pb c.outs.length qb) := KT_00.out.cell 1
          have cT_2_1 : w1.cell? ⟨w.heap.size, 2, none⟩ = some (.slice pl c.las.length ql) := KT_00.out.cell 2
          have cT_3_1 : w1.cell? ⟨w.heap.size, 3, none⟩ = some (.slice (some ⟨eg, eo, none⟩) c.gts.length qg) := KT_00.out.cell 3
          go_wp2
          go_ret
          exact ⟨rfl, B_1.out⟩
        · have g2' : decide ((128 : Int) < (ex.rows.length : Int)) = false := decide_eq_false g2
          have HN := Lib.hid (take_next hall.out HX.out (bigG_no (by omega) (by omega)))
          clear hall
          have lT_1 : w.heap.size < w1.heap.size := KT_00.out.lt
          have cT_0_1 : w1.cell? ⟨w.heap.size, 0, none⟩ = some (.slice pa c.ins.length qa) := KT_00.out.cell 0
          have cT_1_1 : w1.cell? ⟨w.heap.size, 1, none⟩ = some (.slice pb c.outs.length qb) := KT_00.out.cell 1
          have cT_2_1 : w1.cell? ⟨w.heap.size, 2, none⟩ = some (.slice pl c.las.length ql) := KT_00.out.cell 2
          have cT_3_1 : w1.cell? ⟨w.heap.size, 3, none⟩ = some (.slice (some ⟨eg, eo, none⟩) c.gts.length qg) := KT_00.out.cell 3
          go_wp2
          refine ⟨⟨k + 1, by omega, by go_num, HN⟩, ?_⟩
          simp [intOf]; omega
    · have hge : (c.gts.length : Int) ≤ (k : Int) := by omega
      have hl := limit_not (take_whole hall.out (by omega))
      rw [HQ.out] at hl
      clear hall HQ
      by_cases g1 : (200 : Int) < (c.ins.length : Int) + (c.las.length : Int) + (c.gts.length : Int)
      · obtain rfl : q = true := by rw [hl, decide_eq_true (show 200 < c.ins.length + c.las.length + c.gts.length by omega)]; rfl
        clear hl
        have lT_1 : w.heap.size < w1.heap.size := KT_00.out.lt
        have cT_0_1 : w1.cell? ⟨w.heap.size, 0, none⟩ = some (.slice pa c.ins.length qa) := KT_00.out.cell 0
        have cT_1_1 : w1.cell? ⟨w.heap.size, 1, none⟩ = some (.slice pb c.outs.length qb) := KT_00.out.cell 1
        have cT_2_1 : w1.cell? ⟨w.heap.size, 2, none⟩ = some (.slice pl c.las.length ql) := KT_00.out.cell 2
        have cT_3_1 : w1.cell? ⟨w.heap.size, 3, none⟩ = some (.slice pg c.gts.length qg) := KT_00.out.cell 3
        go_wp2
        go_ret
        exact ⟨rfl, B_1.out⟩
      · have g1' : decide ((200 : Int) < (c.ins.length : Int) + (c.las.length : Int) + (c.gts.length : Int)) = false := decide_eq_false g1
        rw [decide_eq_false (show ¬ 200 < c.ins.length + c.las.length + c.gts.length by omega), Bool.false_or] at hl
        by_cases g2 : (200 : Int) < (c.outs.length : Int)
        · obtain rfl : q = true := by rw [hl, decide_eq_true (show 200 < c.outs.length by omega)]
          clear hl
          have lT_1 : w.heap.size < w1.heap.size := KT_00.out.lt
          have cT_0_1 : w1.cell? ⟨w.heap.size, 0, none⟩ = some (.slice pa c.ins.length qa) := KT_00.out.cell 0
          have cT_1_1 : w1.cell? ⟨w.heap.size, 1, none⟩ = some (.slice pb c.outs.length qb) := KT_00.out.cell 1
          have cT_2_1 : w1.cell? ⟨w.heap.size, 2, none⟩ = some (.slice pl c.las.length ql) := KT_00.out.cell 2
          have cT_3_1 : w1.cell? ⟨w.heap.size, 3, none⟩ = some (.slice pg c.gts.length qg) := KT_00.out.cell 3
          go_wp2
          go_ret
          exact ⟨rfl, B_1.out⟩
        · have g2' : decide ((200 : Int) < (c.outs.length : Int)) = false := decide_eq_false g2
          obtain rfl : q = false := by rw [hl, decide_eq_false (show ¬ 200 < c.outs.length by omega)]
          clear hl
          have lT_1 : w.heap.size < w1.heap.size := KT_00.out.lt
          have cT_0_1 : w1.cell? ⟨w.heap.size, 0, none⟩ = some (.slice pa c.ins.length qa) := KT_00.out.cell 0
          have cT_1_1 : w1.cell? ⟨w.heap.size, 1, none⟩ = some (.slice pb c.outs.length qb) := KT_00.out.cell 1
          have cT_2_1 : w1.cell? ⟨w.heap.size, 2, none⟩ = some (.slice pl c.las.length ql) := KT_00.out.cell 2
          have cT_3_1 : w1.cell? ⟨w.heap.size, 3, none⟩ = some (.slice pg c.gts.length qg) := KT_00.out.cell 3
          go_wp2
          go_ret
          exact ⟨rfl, B_1.out⟩
end Go.Proofs.YtfkmolbcgnkfdaaDoor
