/- Where names go, as the document has it. -/
import Derived.Test.YtadodccciejghaaTMap
namespace Go.Proofs.Ytadodccciejghaa
open Go.RowKit Go.Maps
attribute [local go_sem] Oper.semAt_some
set_option maxRecDepth 100000
set_option maxHeartbeats 4000000

theorem rmap_any (a b l : List ByteArray) (v u t : Value) (w : World) (hv : Lst stc w v a) (hu : Lst stc w u b) (ht : Lst stc w t l) (hz : ∀ x ∈ a, x.size ≤ 100000) (hz' : ∀ x ∈ b, x.size ≤ 100000) (hc : ∀ b n c, v = .slice b n c → n ≤ c) (hc' : ∀ b n c, u = .slice b n c → n ≤ c) (hl : l.length ≤ 100000) :
    Calls Try.prog 31 #[.agg #[v, u], t] w fun e w' => ∃ V, e = .returned (.tuple #[V, .int .i64 (mapE a b l)]) ∧ w'.ownsRow w.heap.size 9 1 V (mapR a b l).length ((mapR a b l).flatMap stc) ∧ Below w.heap.size w w' := by
  obtain ⟨i0, hi, hz0, hz1, hz2⟩ := info_parts info9
  have HB := Lib.hid ((Below.refl w.heap.size w).alloc (Nat.le_refl _) (.cells #[v, u] 29))
  have HT := Lib.hid (ht.below HB.out)
  have HCK := Lib.hid (rcheck_any a b v u _ (hv.below HB.out) (hu.below HB.out) hz hz' hc hc')
  have RA := Lib.hid (fun (x : ByteArray) (W : World) (hW : Below w.heap.size w W) => rahead_any a b v u x W (hv.below hW) (hu.below hW) hz hz' hc hc')
  obtain ⟨va, vc, rfl⟩ := hv.slice
  obtain ⟨ua, uc, rfl⟩ := hu.slice
  obtain ⟨ta, tc, rfl⟩ := ht.slice
  have HK0 := Lib.hid (Blk.new w #[.slice va a.length vc, .slice ua b.length uc] 29)
  clear hv hu ht hz hz' hc hc'
  have hsz : (w.alloc (.cells #[.slice va a.length vc, .slice ua b.length uc] 29)).heap.size = w.heap.size + 1 := by simp
  have HSZ := Lib.hid hsz
  clear hsz
  by_cases h0 : checkF a b = 0
  · have HE := Lib.hid (show mapE a b l = (match mapL a b l with | some _ => 0 | none => 12) from by unfold mapE; rw [if_pos h0]; cases mapL a b l <;> rfl)
    have HR := Lib.hid (show mapR a b l = (mapL a b l).getD [] from by unfold mapR; rw [if_pos h0])
    have HAF := Lib.hid (show ∀ x, aheadF a b x = resF (goL a b x) from fun x => by unfold aheadF; rw [if_pos h0, goF_res])
    rw [h0] at HCK
    clear h0
    go_enter Try.func31, Try.ntmps31
    go_wp2_with fail
    refine HCK.out.mono ?_
    rintro e w1 ⟨rfl, b1⟩
    have B1 := Lib.hid (HB.out.trans (b1.mono HB.out.size))
    have T1 := Lib.hid (HT.out.below b1)
    have K1 := Lib.hid (HK0.out.below b1 (by rw [HSZ.out]; omega))
    have hs1 : w.heap.size + 1 ≤ w1.heap.size := by have := b1.size; rw [HSZ.out] at this; exact this
    clear b1
    go_wp2
    go_loopw [7, 8] (fun x i wr => ∃ (k : Nat) (m : List ByteArray), k ≤ l.length ∧ i = .int .i64 (k : Int) ∧ wr.ownsRow w1.heap.size 9 1 x m.length (m.flatMap stc) ∧ m.length = k ∧ Hid (mapL a b l = (mapL a b (l.drop k)).map (m ++ ·)) ∧ Below w1.heap.size w1 wr) (fun _ i _ => l.length - (intOf i).toNat)
    case atStart => exact ⟨0, [], by omega, rfl, World.ownsRow_nil _ _ _ _, rfl, Lib.hid (by simp), Below.refl _ _⟩
    case round =>
      obtain ⟨k, m, hk, rfl, hrow, hm, hrun, hB⟩ := hrel
      have KB := K1.out.below hB (by omega)
      have c0 := KB.cell 0
      have c1 := KB.cell 1
      simp at c0 c1
      have TB := Lib.hid (T1.out.below hB)
      have BB := Lib.hid hB
      have hsB := hB.size
      clear hB KB
      by_cases hlt : k < l.length
      · have hlt' : (k : Int) < (l.length : Int) := by omega
        obtain ⟨g, o, cc, x, hx, hv, hg, hcx⟩ := TB.out.at_ stc_len hlt
        injection hv with e1 e2 e3
        subst e1 e3
        clear e2
        have d0 : wr.cell? ⟨g, o + k, none⟩ = some (.string x) := by have := hcx 0 (by omega); simpa [stc] using this
        have HX := Lib.hid hx
        have bW := B1.out.trans (BB.out.mono B1.out.size)
        have HAC := Lib.hid (fun n => RA.out x (wr.drewN n) (below_drewN bW n))
        clear hcx hx
        have HFX := Lib.hid (HAF.out x)
        obtain ⟨q, hq⟩ : ∃ q, goL a b x = q := ⟨_, rfl⟩
        rw [hq] at HFX
        have HQ := Lib.hid hq
        have BW := Lib.hid bW
        clear hq bW
        rw [HFX.out] at HAC
        cases q with
        | none =>
          change Hid (∀ n, Calls _ _ _ _ fun e w' => e = .returned (.tuple #[.string ⟨#[]⟩, .bool false]) ∧ _) at HAC
          have HN := Lib.hid (mapL_no a b l m k x hrun.out HX.out HQ.out)
          rw [HN.out] at HE HR
          clear hrun
          go_wp2_with fail
          go_region_with (go_at_call 20; refine (HAC.out 1).mono ?_; rintro e w3 ⟨rfl, b3⟩)
          all_goals
            have B3 := Lib.hid ((below_drewN BW.out 1).trans (b3.mono (by have := BW.out.size; simpa using this)))
            clear b3
            go_wp2
            go_ret2
            exact ⟨.slice none 0 0, by rw [HE.out]; rfl, by rw [HR.out]; exact World.ownsRow_nil _ _ _ _, B3.out⟩
        | some y =>
          change Hid (∀ n, Calls _ _ _ _ fun e w' => e = .returned (.tuple #[.string y, .bool true]) ∧ _) at HAC
          have HN := Lib.hid (mapL_yes a b l m k x y hrun.out HX.out HQ.out)
          clear hrun
          go_wp2_with fail
          go_region_with (go_at_call 20; refine (HAC.out 1).mono ?_; rintro e w3 ⟨rfl, b3⟩)
          all_goals
            have R3 := row_below (show (wr.drewN 1).ownsRow w1.heap.size 9 1 _ m.length (m.flatMap stc) from hrow) b3
            have BB3 := Lib.hid ((below_drewN BB.out 1).trans (b3.mono (by simpa using hsB)))
            have hs3 : w1.heap.size ≤ w3.heap.size := BB3.out.size
            clear b3 hrow
            go_wp2_with (at_builtin; refine wpList_append_own _ rfl _ _ 22 rfl w1.heap.size 9 i0 (.string ⟨#[]⟩) 1 16 Try.underlying22 hi hz0 hz1 hz2 rfl (by decide) _ m.length _ rfl (R3.alloc _) ⟨w3.heap.size, 0, none⟩ 1 1 [.string y] rfl rfl (cell_one_new _ _ _) (by simp [Value.oneCell']) (by unfold maxLen; omega) (by omega) (by simp; omega) ?_; intro v4 w4 r4 g4 _)
            have r5 : w4.ownsRow w1.heap.size 9 1 v4 (m ++ [y]).length ((m ++ [y]).flatMap stc) := by
              rw [List.length_append, List.flatMap_append]
              exact r4
            have B5 := ((BB3.out.alloc hs3 _).grown g4 (by simp; omega) (fun j e => (R3.lt j e).1))
            refine ⟨⟨k + 1, m ++ [y], by omega, by go_num, r5, by simp [hm], HN, B5⟩, ?_⟩
            simp [intOf]; omega
      · have hge : (l.length : Int) ≤ (k : Int) := by omega
        have HN := Lib.hid (mapL_end a b l m k hrun.out (by omega))
        rw [HN.out] at HE HR
        have R3 := Lib.hid (row_mono hrow (show w.heap.size ≤ w1.heap.size by omega))
        have B3 := Lib.hid (B1.out.trans (BB.out.mono B1.out.size))
        clear hrun hrow
        go_wp2
        go_ret2
        exact ⟨u7, by rw [HE.out]; rfl, by rw [HR.out]; exact R3.out, B3.out⟩
  · have HE := Lib.hid (show mapE a b l = checkF a b from by unfold mapE; rw [if_neg h0])
    have HR := Lib.hid (show mapR a b l = [] from by unfold mapR; rw [if_neg h0])
    obtain ⟨q, hq⟩ : ∃ q, checkF a b = q := ⟨_, rfl⟩
    rw [hq] at HCK h0 HE
    have hne : (q != 0) = true := by rw [bne_iff_ne]; exact h0
    clear h0 hq
    go_enter Try.func31, Try.ntmps31
    go_wp2_with fail
    refine HCK.out.mono ?_
    rintro e w1 ⟨rfl, b1⟩
    have B1 := Lib.hid (HB.out.trans (b1.mono HB.out.size))
    clear b1
    go_wp2
    go_ret2
    exact ⟨.slice none 0 0, by rw [HE.out]; rfl, by rw [HR.out]; exact World.ownsRow_nil _ _ _ _, B1.out⟩
end Go.Proofs.Ytadodccciejghaa
