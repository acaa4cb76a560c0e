/- The op whose cover a gate has. -/
import Derived.Test.YtfkmolbcgnkfdaaDoorCov
import Derived.Test.YtfkmolbcgnkfdaaDoorGat
namespace Go.Proofs.YtfkmolbcgnkfdaaDoor
open Go.RowKit
attribute [local go_sem] Oper.semAt_some
set_option maxRecDepth 100000
set_option maxHeartbeats 1000000
def covOk (g : Gt) (k : Nat) : Bool := decide (loZ (k : Int) ≤ (g.ins.length : Int)) && (decide ((g.ins.length : Int) ≤ hiZ (k : Int)) && hasC g (k : Int))
def opC (g : Gt) : Int × Bool := match (List.range 10).find? (covOk g) with
  | some k => ((k : Int), true)
  | none => (0, false)
theorem opC_at {g : Gt} {k : Nat} (hk : k < 10) (h : ∀ j, j < k → covOk g j = false) (hc : covOk g k = true) : opC g = ((k : Int), true) := by
  have : (List.range 10).find? (covOk g) = some k := List.find?_range_eq_some.2 ⟨hc, List.mem_range.2 hk, fun j hj => by rw [h j hj]; rfl⟩
  unfold opC
  rw [this]
theorem opC_none {g : Gt} (h : ∀ j, j < 10 → covOk g j = false) : opC g = (0, false) := by
  have : (List.range 10).find? (covOk g) = none := List.find?_range_eq_none.2 fun j hj => by rw [h j hj]; rfl
  unfold opC
  rw [this]
theorem hiZ_le (o : Int) : hiZ o ≤ 8 := by
  unfold hiZ
  split
  · omega
  · split <;> omega
theorem arity_look0 {W : World} {mb : Nat} (h : W.ownsMap Tryd.prog 37 pairElem mb 11 (arN 11)) (o : Int) (hw : (Lit.int .i64 o).wf = true) :
    (Instr.lookup 75 (.map (some mb)) (.int .i64 o) false).run Tryd.prog W = .ok (.agg #[.int .i64 (loZ o), .int .i64 (hiZ o)]) W := by
  obtain ⟨v, ps, hrun, hv⟩ := h.lookup law37 Tryd.underlying75 (zero73 W) (pairElem_mk 0 0) (key37 o hw)
  obtain ⟨v', ps', hrun', hv'⟩ := h.look_ok law37 Tryd.underlying75 (zero73 W) (pairElem_mk 0 0) (key37 o hw)
  rw [arity_look h o hw] at hrun'
  injection hrun' with e1 e2
  injection e1 with e1
  have e3 : v' = .agg #[.int .i64 (loZ o), .int .i64 (hiZ o)] := by
    have := congrArg (fun a => a.toList[0]?) e1
    simpa using this.symm
  subst e3
  obtain ⟨a, b, rfl, hz⟩ := pairElem_inv hv
  obtain ⟨a', b', e4, hz'⟩ := pairElem_inv hv'
  have e5 := congrArg Prod.fst hz
  have e6 := congrArg Prod.fst hz'
  simp only at e5 e6
  rw [e5] at e6
  simp only [DataW.agg.injEq, List.cons.injEq, DataW.lit.injEq, Lit.int.injEq, and_true, true_and] at e6
  rw [hrun, e4, e6.1, e6.2]
theorem pair_lo (a b : Int) (W : World) : (Instr.index 73 (.agg #[.int .i64 a, .int .i64 b]) (.int .i64 0)).run Tryd.prog W = .ok (.int .i64 a) W := by kernel_rfl
theorem pair_hi (a b : Int) (W : World) : (Instr.index 73 (.agg #[.int .i64 a, .int .i64 b]) (.int .i64 1)).run Tryd.prog W = .ok (.int .i64 b) W := by kernel_rfl
theorem hascover_ex (g : Gt) (vi vr : Value) (k : Nat) (q : Bool) (w : World) (hk : k < 10) (hi : Inn w vi g.ins) (hr : Inn w vr g.rows) (hn : (g.ins.length : Int) ≤ hiZ (k : Int)) (hrl : g.rows.length ≤ 100000) (hq : hasC g (k : Int) = q) :
    Calls Tryd.prog 79 #[.agg #[.string g.name, .int .i64 g.op, vi, vr, .bool g.off], .int .i64 (k : Int)] w fun e w' => e = .returned (.bool q) ∧ Below w.heap.size w w' :=
  hascover_any g vi vr k q w ⟨by omega, by omega⟩ hi hr (by have := hiZ_le k; omega) hrl hq
theorem wf_small {k : Nat} (h : k < 10) : (Lit.int .i64 (k : Int)).wf = true := by
  match k, h with
  | 0, _ => rfl
  | 1, _ => rfl
  | 2, _ => rfl
  | 3, _ => rfl
  | 4, _ => rfl
  | 5, _ => rfl
  | 6, _ => rfl
  | 7, _ => rfl
  | 8, _ => rfl
  | 9, _ => rfl
theorem opOfCover_any (g : Gt) (vi vr : Value) (o : Int) (b : Bool) (w : World) (hi : Inn w vi g.ins) (hr : Inn w vr g.rows) (hrl : g.rows.length ≤ 100000) (hq : opC g = (o, b)) :
    Calls Tryd.prog 62 #[.agg #[.string g.name, .int .i64 g.op, vi, vr, .bool g.off]] w fun e w' => e = .returned (.tuple #[.int .i64 o, .bool b]) ∧ Below w.heap.size w w' := by
  have HI := Lib.hid hi
  have HR := Lib.hid hr
  obtain ⟨pi, qi, rfl⟩ := hi.lst.slice
  obtain ⟨pr, qr, rfl⟩ := hr.lst.slice
  clear hi hr
  have HQ := Lib.hid hq
  have HRL := Lib.hid hrl
  clear hq hrl
  go_enter Tryd.func62, Tryd.ntmps62
  go_wp2_with fail
  have a1 : Below w.heap.size w (w.alloc (.cells #[.string g.name, .int .i64 g.op, .slice pi g.ins.length qi, .slice pr g.rows.length qr, .bool g.off] 39)) := ((Below.refl w.heap.size w).alloc (by first | exact Nat.le_refl _ | (simp only [World.size_alloc]; omega)) (.cells #[.string g.name, .int .i64 g.op, .slice pi g.ins.length qi, .slice pr g.rows.length qr, .bool g.off] 39))
  have T_new0 := (Blk.new w #[.string g.name, .int .i64 g.op, .slice pi g.ins.length qi, .slice pr g.rows.length qr, .bool g.off] 39)
  have KT_00 := Lib.hid T_new0
  clear T_new0
  have I_1 := Lib.hid (HI.out.below a1)
  clear HI
  have R_1 := Lib.hid (HR.out.below a1)
  clear HR
  have B_1 := Lib.hid a1
  clear a1
  generalize (w.alloc (.cells #[.string g.name, .int .i64 g.op, .slice pi g.ins.length qi, .slice pr g.rows.length qr, .bool g.off] 39)) = w1 at I_1 R_1 KT_00 B_1 ⊢
  refine (arity_any _).mono ?_
  rintro e w2 ⟨mb, rfl, hm, b2⟩
  have I_2 := Lib.hid (I_1.out.below b2)
  clear I_1
  have R_2 := Lib.hid (R_1.out.below b2)
  clear R_1
  have KT_2 := Lib.hid (KT_00.out.below b2 KT_00.out.lt)
  clear KT_00
  have B_2 := Lib.hid (B_1.out.trans (b2.mono B_1.out.size))
  clear B_1
  clear b2
  have M := Lib.hid hm
  clear hm
  have I_a := I_2
  have R_a := R_2
  have M_a := M
  have KT_a := KT_2
  have B_a := B_2
  have Qa_0 := Lib.hid (Below.refl w2.heap.size w2)
  go_wp2_with fail
  go_loopw [5] (fun i wr => ∃ k : Nat, k ≤ 10 ∧ i = .int .i64 (k : Int) ∧ Hid (∀ j, j < k → covOk g j = false) ∧ Below w2.heap.size w2 wr) (fun i _ => 10 - (intOf i).toNat)
  case atStart => exact ⟨0, by omega, rfl, Lib.hid fun j h => absurd h (by omega), Qa_0.out⟩
  case round =>
    obtain ⟨k, hk, rfl, hall, hB⟩ := hrel
    clear I_2 R_2 M Qa_0 KT_2 B_2
    have I_ar := Lib.hid (I_a.out.below hB)
    have R_ar := Lib.hid (R_a.out.below hB)
    have M_ar := Lib.hid (own_below M_a.out hB)
    have KT_ar := Lib.hid (KT_a.out.below hB KT_a.out.lt)
    have B_ar := Lib.hid (B_a.out.trans (hB.mono B_a.out.size))
    have Qar := Lib.hid hB
    by_cases hlt : k < 10
    · have hlt' : (k : Int) < 10 := by omega
      have WFK := Lib.hid (wf_small hlt)
      obtain ⟨lo, hlo⟩ : ∃ lo, loZ (k : Int) = lo := ⟨_, rfl⟩
      obtain ⟨hi, hhi⟩ : ∃ hi, hiZ (k : Int) = hi := ⟨_, rfl⟩
      obtain ⟨hc, hhc⟩ : ∃ q, hasC g (k : Int) = q := ⟨_, rfl⟩
      have HLO := Lib.hid hlo
      have HHI := Lib.hid hhi
      have HHC := Lib.hid hhc
      clear hlo hhi hhc
      clear hB
      by_cases h1 : lo ≤ (g.ins.length : Int)
      · by_cases h2 : (g.ins.length : Int) ≤ hi
        · have d1 : decide (lo ≤ (g.ins.length : Int)) = true := decide_eq_true h1
          have d2 : decide ((g.ins.length : Int) ≤ hi) = true := decide_eq_true h2
          have lT_0 : w.heap.size < wr.heap.size := KT_ar.out.lt
          have cT_0_0 : wr.cell? ⟨w.heap.size, 0, none⟩ = some (.string g.name) := KT_ar.out.cell 0
          have cT_1_0 : wr.cell? ⟨w.heap.size, 1, none⟩ = some (.int .i64 g.op) := KT_ar.out.cell 1
          have cT_2_0 : wr.cell? ⟨w.heap.size, 2, none⟩ = some (.slice pi g.ins.length qi) := KT_ar.out.cell 2
          have cT_3_0 : wr.cell? ⟨w.heap.size, 3, none⟩ = some (.slice pr g.rows.length qr) := KT_ar.out.cell 3
          have cT_4_0 : wr.cell? ⟨w.heap.size, 4, none⟩ = some (.bool g.off) := KT_ar.out.cell 4
          have hlk := arity_look0 M_ar.out (k : Int) WFK.out
          rw [HLO.out, HHI.out] at hlk
          have hp0 := pair_lo lo hi wr
          have hp1 := pair_hi lo hi wr
          go_wp2_with fail
          clear lT_0 cT_0_0 cT_1_0 cT_2_0 cT_3_0 cT_4_0 hlk hp0 hp1
          refine (hascover_ex g _ _ k hc _ hlt I_ar.out R_ar.out (by rw [HHI.out]; exact h2) HRL.out HHC.out).mono ?_
          rintro e wr1 ⟨rfl, b1⟩
          have I_1 := Lib.hid (I_ar.out.below b1)
          clear I_ar
          have R_1 := Lib.hid (R_ar.out.below b1)
          clear R_ar
          have M_1 := Lib.hid (own_below M_ar.out b1)
          clear M_ar
          have Qa_1 := Lib.hid (Qar.out.trans (b1.mono Qar.out.size))
          clear Qar
          have KT_1 := Lib.hid (KT_ar.out.below b1 KT_ar.out.lt)
          clear KT_ar
          have B_1 := Lib.hid (B_ar.out.trans (b1.mono B_ar.out.size))
          clear B_ar
          clear b1
          cases hc
          · have HN := Lib.hid (show ∀ j, j < k + 1 → covOk g j = false from fun j hj => by
              by_cases e : j < k
              · exact hall.out j e
              · obtain rfl : j = k := by omega
                unfold covOk
                rw [HLO.out, HHI.out, HHC.out]
                simp)
            clear hall
            go_wp2
            refine ⟨⟨k + 1, by omega, by go_num, HN, Qa_1.out⟩, ?_⟩
            simp [intOf]; omega
          · have HE := Lib.hid (HQ.out.symm.trans (opC_at hlt hall.out (by unfold covOk; rw [HLO.out, HHI.out, HHC.out, d1, d2]; rfl)))
            clear hall d1 d2 h1 h2
            go_wp2
            go_ret2
            obtain ⟨rfl, rfl⟩ := Prod.mk.inj HE.out
            exact ⟨rfl, B_1.out⟩
        · have d1 : decide (lo ≤ (g.ins.length : Int)) = true := decide_eq_true h1
          have d2 : decide ((g.ins.length : Int) ≤ hi) = false := decide_eq_false h2
          have lT_0 : w.heap.size < wr.heap.size := KT_ar.out.lt
          have cT_0_0 : wr.cell? ⟨w.heap.size, 0, none⟩ = some (.string g.name) := KT_ar.out.cell 0
          have cT_1_0 : wr.cell? ⟨w.heap.size, 1, none⟩ = some (.int .i64 g.op) := KT_ar.out.cell 1
          have cT_2_0 : wr.cell? ⟨w.heap.size, 2, none⟩ = some (.slice pi g.ins.length qi) := KT_ar.out.cell 2
          have cT_3_0 : wr.cell? ⟨w.heap.size, 3, none⟩ = some (.slice pr g.rows.length qr) := KT_ar.out.cell 3
          have cT_4_0 : wr.cell? ⟨w.heap.size, 4, none⟩ = some (.bool g.off) := KT_ar.out.cell 4
          have hlk := arity_look0 M_ar.out (k : Int) WFK.out
          rw [HLO.out, HHI.out] at hlk
          have hp0 := pair_lo lo hi wr
          have hp1 := pair_hi lo hi wr
          have HN := Lib.hid (show ∀ j, j < k + 1 → covOk g j = false from fun j hj => by
            by_cases e : j < k
            · exact hall.out j e
            · obtain rfl : j = k := by omega
              unfold covOk
              rw [HLO.out, HHI.out, HHC.out]
              rw [d1, d2]; rfl)
          clear hall
          go_wp2
          refine ⟨⟨k + 1, by omega, by go_num, HN, Qar.out⟩, ?_⟩
          simp [intOf]; omega
      · have d1 : decide (lo ≤ (g.ins.length : Int)) = false := decide_eq_false h1
        have lT_0 : w.heap.size < wr.heap.size := KT_ar.out.lt
        have cT_0_0 : wr.cell? ⟨w.heap.size, 0, none⟩ = some (.string g.name) := KT_ar.out.cell 0
        have cT_1_0 : wr.cell? ⟨w.heap.size, 1, none⟩ = some (.int .i64 g.op) := KT_ar.out.cell 1
        have cT_2_0 : wr.cell? ⟨w.heap.size, 2, none⟩ = some (.slice pi g.ins.length qi) := KT_ar.out.cell 2
        have cT_3_0 : wr.cell? ⟨w.heap.size, 3, none⟩ = some (.slice pr g.rows.length qr) := KT_ar.out.cell 3
        have cT_4_0 : wr.cell? ⟨w.heap.size, 4, none⟩ = some (.bool g.off) := KT_ar.out.cell 4
        have hlk := arity_look0 M_ar.out (k : Int) WFK.out
        rw [HLO.out, HHI.out] at hlk
        have hp0 := pair_lo lo hi wr
        have hp1 := pair_hi lo hi wr
        have HN := Lib.hid (show ∀ j, j < k + 1 → covOk g j = false from fun j hj => by
          by_cases e : j < k
          · exact hall.out j e
          · obtain rfl : j = k := by omega
            unfold covOk
            rw [HLO.out, HHI.out, HHC.out]
            rw [d1]; rfl)
        clear hall
        go_wp2
        refine ⟨⟨k + 1, by omega, by go_num, HN, Qar.out⟩, ?_⟩
        simp [intOf]; omega
    · have hge : ¬ (k : Int) < 10 := by omega
      obtain rfl : k = 10 := by omega
      have HE := Lib.hid (HQ.out.symm.trans (opC_none hall.out))
      clear hall hB
      go_wp2
      go_ret2
      obtain ⟨rfl, rfl⟩ := Prod.mk.inj HE.out
      exact ⟨rfl, B_ar.out⟩
end Go.Proofs.YtfkmolbcgnkfdaaDoor
