/- One table behind another one, as the document has it. -/
import Derived.Test.YtadodccciejghaaTJoin
import Derived.Test.YtadodccciejghaaRMap
import Derived.Deep.RegionLaw
import Derived.Deep.AppendLies
namespace Go.Proofs.Ytadodccciejghaa
open Go.RowKit Go.Maps
attribute [local go_sem] Oper.semAt_some
set_option maxRecDepth 100000

theorem zip_take {a b : List ByteArray} {k : Nat} {x y : ByteArray} (hx : a[k]? = some x) (hy : b[k]? = some y) : (a.zip b).take (k + 1) = (a.zip b).take k ++ [(x, y)] := by
  have hz : (a.zip b)[k]? = some (x, y) := List.getElem?_zip_eq_some.2 ⟨hx, hy⟩
  rw [List.take_add_one, hz]
  rfl

theorem grown_undrew {A B : World} {row : Option Nat} (h : A.drew.grownBy B row) : A.grownBy B row := ⟨h.os, h.tape, h.output, h.size, h.block⟩
theorem lies_own {gg n cp H : Nat} {x : Value} (h : x.ownBlock = some gg ∨ gg = H) : (Value.slice (some ⟨gg, 0, none⟩) n cp).ownBlock = x.ownBlock ∨ (Value.slice (some ⟨gg, 0, none⟩) n cp).ownBlock = some H :=
  h.elim (fun e => .inl e.symm) (fun e => .inr (by rw [e]; rfl))

set_option maxHeartbeats 4000000 in
theorem rjn_main (a b c d : List ByteArray) (v u v' u' : Value) (w : World) (hv : Lst stc w v a) (hu : Lst stc w u b) (hv' : Lst stc w v' c) (hu' : Lst stc w u' d)
    (hz : ∀ x ∈ a, x.size ≤ 100000) (hz' : ∀ x ∈ b, x.size ≤ 100000) (hz2 : ∀ x ∈ c, x.size ≤ 100000) (hz3 : ∀ x ∈ d, x.size ≤ 100000)
    (hcc : ∀ b n c, v = .slice b n c → n ≤ c) (hcc' : ∀ b n c, u = .slice b n c → n ≤ c) (hcc2 : ∀ b n c, v' = .slice b n c → n ≤ c) (hcc3 : ∀ b n c, u' = .slice b n c → n ≤ c) (hc1 : checkF a b = 0) (hc2 : checkF c d = 0) :
    Calls Try.prog 29 #[.agg #[v, u], .agg #[v', u']] w fun e w' => ∃ V, e = .returned V ∧ TabR w.heap.size w' V ((joinL c d a b).map (·.1)) ((joinL c d a b).map (·.2)) ∧ Below w.heap.size w w' := by
  obtain ⟨i0, hi, hq0, hq1, hq2⟩ := info_parts info9
  have hB0 := (((Below.refl w.heap.size w).alloc (Nat.le_refl _) (.cells #[v, u] 29)).alloc (by simp) (.cells #[v', u'] 29)).alloc (by simp; omega) (.cells #[.slice none 0 0, .slice none 0 0] 29)
  have hB1 := hB0.alloc hB0.size (.cells #[.slice none 0 0, .slice none 0 0] 29)
  have HB1 := Lib.hid hB1
  have CK1 := Lib.hid (rcheck_any a b v u _ (hv.below hB1) (hu.below hB1) hz hz' hcc hcc')
  have hok1 := (check_ok a b).1 hc1
  rw [hc1] at CK1
  have HV := Lib.hid hv
  have HU := Lib.hid hu
  have CK2 := Lib.hid (fun (W : World) (hW : Below w.heap.size w W) => hc2 ▸ rcheck_any c d v' u' W (hv'.below hW) (hu'.below hW) hz2 hz3 hcc2 hcc3)
  have RA := Lib.hid (fun (x : ByteArray) (W : World) (hW : Below w.heap.size w W) => rahead_any c d v' u' x W (hv'.below hW) (hu'.below hW) hz2 hz3 hcc2 hcc3)
  have HAF := Lib.hid (show ∀ x, aheadF c d x = resF (goL c d x) from fun x => by unfold aheadF; rw [if_pos hc2, goF_res])
  have hal := hok1.1
  have HAB := Lib.hid hok1.2.1
  clear hok1 hc1 hc2
  obtain ⟨va, vc, rfl⟩ := hv.slice
  obtain ⟨ua, uc, rfl⟩ := hu.slice
  obtain ⟨va', vc', rfl⟩ := hv'.slice
  obtain ⟨ua', uc', rfl⟩ := hu'.slice
  clear hv hu hv' hu' hz hz' hz2 hz3 hB0 hB1 hcc hcc' hcc2 hcc3
  have k0 := (((Blk.new w #[.slice va a.length vc, .slice ua b.length uc] 29).alloc (.cells #[.slice va' c.length vc', .slice ua' d.length uc'] 29)).alloc (.cells #[.slice none 0 0, .slice none 0 0] 29)).alloc (.cells #[.slice none 0 0, .slice none 0 0] 29)
  have k1 := ((Blk.new (w.alloc (.cells #[.slice va a.length vc, .slice ua b.length uc] 29)) #[.slice va' c.length vc', .slice ua' d.length uc'] 29).alloc (.cells #[.slice none 0 0, .slice none 0 0] 29)).alloc (.cells #[.slice none 0 0, .slice none 0 0] 29)
  have k2 := (Blk.new ((w.alloc (.cells #[.slice va a.length vc, .slice ua b.length uc] 29)).alloc (.cells #[.slice va' c.length vc', .slice ua' d.length uc'] 29)) #[.slice none 0 0, .slice none 0 0] 29).alloc (.cells #[.slice none 0 0, .slice none 0 0] 29)
  have k3 := Blk.new (((w.alloc (.cells #[.slice va a.length vc, .slice ua b.length uc] 29)).alloc (.cells #[.slice va' c.length vc', .slice ua' d.length uc'] 29)).alloc (.cells #[.slice none 0 0, .slice none 0 0] 29)) #[.slice none 0 0, .slice none 0 0] 29
  rw [World.size_alloc] at k1
  rw [World.size_alloc, World.size_alloc] at k2
  rw [World.size_alloc, World.size_alloc, World.size_alloc] at k3
  have hsz : ((((w.alloc (.cells #[.slice va a.length vc, .slice ua b.length uc] 29)).alloc (.cells #[.slice va' c.length vc', .slice ua' d.length uc'] 29)).alloc (.cells #[.slice none 0 0, .slice none 0 0] 29)).alloc (.cells #[.slice none 0 0, .slice none 0 0] 29)).heap.size = w.heap.size + 4 := by simp
  have K0 := Lib.hid k0
  have K1 := Lib.hid k1
  have K2 := Lib.hid k2
  have K3 := Lib.hid k3
  have HSZ := Lib.hid hsz
  have g0 := k0.cell 0
  have g1 := k0.cell 1
  simp at g0 g1
  clear k0 k1 k2 k3 hsz
  go_enter Try.func29, Try.ntmps29
  go_wp2_with fail
  refine CK1.out.mono ?_
  rintro e w1 ⟨rfl, b1⟩
  have B1 := Lib.hid (HB1.out.trans (b1.mono HB1.out.size))
  have hs1 : w.heap.size + 4 ≤ w1.heap.size := by have := b1.size; rw [HSZ.out] at this; exact this
  have L0 := Lib.hid (K0.out.below b1 (by rw [HSZ.out]; omega))
  have L1 := Lib.hid (K1.out.below b1 (by rw [HSZ.out]; omega))
  have L2 := Lib.hid (K2.out.below b1 (by rw [HSZ.out]; omega))
  have L3 := Lib.hid (K3.out.below b1 (by rw [HSZ.out]; omega))
  clear b1 K0 K1 K2 K3 HSZ g0 g1
  have g0 := L1.out.cell 0
  have g1 := L1.out.cell 1
  simp at g0 g1
  go_wp2_with fail
  refine (CK2.out w1 B1.out).mono ?_
  rintro e w2 ⟨rfl, b2⟩
  have B2 := Lib.hid (B1.out.trans (b2.mono B1.out.size))
  have hs2 : w.heap.size + 4 ≤ w2.heap.size := Nat.le_trans hs1 b2.size
  have M0 := Lib.hid (L0.out.below b2 (by omega))
  have M1 := Lib.hid (L1.out.below b2 (by omega))
  have M2 := Lib.hid (L2.out.below b2 (by omega))
  have M3 := Lib.hid (L3.out.below b2 (by omega))
  clear b2 L0 L1 L2 L3 g0 g1 B1 HB1 CK1 CK2
  go_wp2
  go_loopw [6] (fun i wr => ∃ k : Nat, k ≤ a.length ∧ i = .int .i64 (k : Int) ∧ Two 29 (w.heap.size + 1 + 1 + 1) w2.heap.size wr ((joinP c d ((a.zip b).take k)).map (·.1)) ((joinP c d ((a.zip b).take k)).map (·.2)) ∧ w2.grownBy wr (some (w.heap.size + 1 + 1 + 1))) (fun i _ => a.length - (intOf i).toNat)
  case atStart => exact ⟨0, by omega, rfl, ⟨_, _, M3.out, World.ownsRow_nil _ _ _ _, World.ownsRow_nil _ _ _ _, .inl rfl⟩, World.grownBy.refl _ _⟩
  case round =>
    obtain ⟨k, hk, rfl, hTwo, hgr⟩ := hrel
    have bW := B2.out.grown hgr B2.out.size (fun j e => by cases e; omega)
    have j0 : Blk wr w.heap.size #[.slice va a.length vc, .slice ua b.length uc] 29 := grown_keeps hgr M0.out (by simp; omega)
    have j1 : Blk wr (w.heap.size + 1) #[.slice va' c.length vc', .slice ua' d.length uc'] 29 := grown_keeps hgr M1.out (by simp; omega)
    have c0 := j0.cell 0
    have c1 := j0.cell 1
    have d0 := j1.cell 0
    have d1 := j1.cell 1
    simp at c0 c1 d0 d1
    have BW := Lib.hid bW
    have HT := Lib.hid hTwo
    have HG := Lib.hid hgr
    have hsr : w2.heap.size ≤ wr.heap.size := hgr.size
    have J0 := Lib.hid j0
    have VW := Lib.hid (HV.out.below bW)
    have UW := Lib.hid (HU.out.below bW)
    clear hTwo hgr bW j0 j1
    by_cases hlt : k < a.length
    · have hlt' : (k : Int) < (a.length : Int) := by omega
      have hltb : k < b.length := by have := HAB.out; omega
      have hltb' : (k : Int) < (b.length : Int) := by omega
      obtain ⟨gb, ob, cb, y, hy, hub, hgb, hcb⟩ := UW.out.at_ stc_len hltb
      injection hub with e1 e2 e3
      subst e1 e3
      clear e2
      have dy : wr.cell? ⟨gb, ob + k, none⟩ = some (.string y) := by have := hcb 0 (by omega); simpa [stc] using this
      obtain ⟨ga, oa, ca, x, hx, hva, hga, hca⟩ := VW.out.at_ stc_len hlt
      injection hva with e1 e2 e3
      subst e1 e3
      clear e2
      have dx : wr.cell? ⟨ga, oa + k, none⟩ = some (.string x) := by have := hca 0 (by omega); simpa [stc] using this
      have HZT := Lib.hid (zip_take hx hy)
      have HAC := Lib.hid (fun n => RA.out y (wr.drewN n) (below_drewN BW.out n))
      have HFX := Lib.hid (HAF.out y)
      clear hcb hca hx hy
      obtain ⟨q, hq⟩ : ∃ q, goL c d y = q := ⟨_, rfl⟩
      rw [hq] at HFX
      have HQ := Lib.hid hq
      clear hq
      rw [HFX.out] at HAC
      cases q with
      | none =>
        change Hid (∀ n, Calls _ _ _ _ fun e w' => e = .returned (.tuple #[.string ⟨#[]⟩, .bool false]) ∧ _) at HAC
        have HP := Lib.hid (joinP_no c d ((a.zip b).take k) x y HQ.out)
        go_wp2_with fail
        go_region_with (go_at_call 20; refine (HAC.out 1).mono ?_; rintro e w3 ⟨rfl, b3⟩)
        all_goals
          have hd1 : Below wr.heap.size wr (wr.drewN 1) := below_drewN (Below.refl _ _) 1
          have B3 := Lib.hid (hd1.trans b3)
          clear b3 hd1
          go_wp2
          refine ⟨⟨k + 1, by omega, by go_num, ?_, grown_below HG.out B3.out⟩, ?_⟩
          · rw [HZT.out, HP.out]
            exact HT.out.below B3.out
          · simp [intOf]; omega
      | some z =>
        change Hid (∀ n, Calls _ _ _ _ fun e w' => e = .returned (.tuple #[.string z, .bool true]) ∧ _) at HAC
        have HP := Lib.hid (joinP_yes c d ((a.zip b).take k) x y z HQ.out)
        have HL1 := Lib.hid (joinP_len c d ((a.zip b).take k))
        obtain ⟨A, hA⟩ : ∃ A, (joinP c d ((a.zip b).take k)).map (·.1) = A := ⟨_, rfl⟩
        obtain ⟨Z, hZ⟩ : ∃ Z, (joinP c d ((a.zip b).take k)).map (·.2) = Z := ⟨_, rfl⟩
        have hlen : ((a.zip b).take k).length ≤ k := by rw [List.length_take]; omega
        have hAl : A.length ≤ 200 := by rw [← hA]; have := HL1.out; simp; omega
        have hZl : Z.length ≤ 200 := by rw [← hZ]; have := HL1.out; simp; omega
        rw [hA, hZ] at HT
        have HPA := Lib.hid (show (joinP c d ((a.zip b).take (k + 1))).map (·.1) = A ++ [x] by rw [HZT.out, HP.out, List.map_append, hA]; rfl)
        have HPZ := Lib.hid (show (joinP c d ((a.zip b).take (k + 1))).map (·.2) = Z ++ [z] by rw [HZT.out, HP.out, List.map_append, hZ]; rfl)
        clear hA hZ HP hlen HZT
        go_wp2_with fail
        go_region_with (go_at_call 20; refine (HAC.out 1).mono ?_; rintro e w3 ⟨rfl, b3⟩)
        all_goals
          have hd1 : Below wr.heap.size wr (wr.drewN 1) := below_drewN (Below.refl _ _) 1
          have b4 := hd1.trans b3
          have hs3 : w2.heap.size ≤ w3.heap.size := Nat.le_trans hsr b4.size
          have HG5 := Lib.hid (grown_below HG.out b4)
          obtain ⟨x0, y0, hb, q1, q2, hd⟩ := HT.out.below b4
          have J5 := J0.out.below b4 (by omega)
          have i0c := J5.cell 0
          have i1c := J5.cell 1
          have dx5 := (b4.cell (p := ⟨ga, oa + k, none⟩) (by simp; omega)).trans dx
          have f0 := hb.frozen 0
          have cb0 := hb.cell 0
          have cb1 := hb.cell 1
          simp at cb0 cb1 i0c i1c
          have cbA : ((w3.alloc (.cells #[.string x] 9)).drew).cell? ⟨w.heap.size + 1 + 1 + 1, 0, none⟩ = some x0 := ((hb.alloc (.cells #[.string x] 9)).drew).cell 0
          clear b3 b4 hd1 J5 c0 c1 d0 d1 dx dy
          go_wp2_with fail
          go_region_law (refine step_append_lies _ rfl (.tmp 38) (.tmp 44) 22 (by rfl) w2.heap.size 9 i0 (.string ⟨#[]⟩) 1 16 Try.underlying22 hi hq0 hq1 hq2 rfl (by decide) x0 A.length (A.flatMap stc) (by rfl) ((q1.alloc _).drew) ⟨w3.heap.size, 0, none⟩ 1 1 [.string x] (by rfl) (by rfl) (World.news_of_block (cs := #[.string x]) (t := 9) (fr := (0, 0)) (heap_alloc_new w3 _)) (by simp [Value.oneCell']) (by decide) (by unfold maxLen; omega) (by omega) (by simp; omega) (w3.heap.size + 1) (by simp) ?_; intro gg cp w1' o1 g1' k1' _; obtain ⟨e1, e2, e3, e4, e5⟩ := two_fst (by omega) hb q1 q2 hd o1 (grown_undrew g1') (by simpa using lies_own k1'); have c10 := e1.cell 0; have f10 := e1.frozen 0; simp at c10)
          all_goals
            have T1 := two_rest (v' := .slice (some ⟨gg, 0, none⟩) (A.length + 1) cp) (j := 0) (B := w.heap.size + 1 + 1 + 1) (fun k e => (q1.lt k e).1) (row_cells q1 (.cells #[.string x] 9)) (grown_undrew g1')
            have G7 := T1.2.1 w2 (Nat.le_refl _) HG5.out
            have hs7 : w2.heap.size ≤ (w1'.setCell ⟨w.heap.size + 1 + 1 + 1, 0, none⟩ (.slice (some ⟨gg, 0, none⟩) (A.length + 1) cp)).heap.size := G7.size
            have HG7 := Lib.hid G7
            clear cbA T1 G7 o1 g1' k1' e1 c10 f10 HG5 q1 q2 hb hd cb0 cb1 i0c i1c dx5 f0
            generalize w1'.setCell ⟨w.heap.size + 1 + 1 + 1, 0, none⟩ (.slice (some ⟨gg, 0, none⟩) (A.length + 1) cp) = w7 at *
            have c11 := e2.cell 1
            simp at c11
            go_wp2_with (at_builtin; refine wpList_append_two _ rfl _ _ 22 rfl w2.heap.size 9 i0 (.string ⟨#[]⟩) 1 16 Try.underlying22 hi hq0 hq1 hq2 rfl (by decide) _ Z.length _ rfl (e4.alloc _) ⟨w7.heap.size, 0, none⟩ 1 1 [.string z] rfl rfl (cell_one_new _ _ _) (by simp [Value.oneCell']) (by unfold maxLen; omega) (by omega) (by simp; omega) ?_; intro v2 w2' o2 g2' k2'; obtain ⟨gh, cq, rfl⟩ := ownsRow_succ o2; obtain ⟨h1', h2'⟩ := two_snd (by omega) e2 e3 e4 e5 o2 g2' k2'; have c20 := h1'.cell 1; have f20 := h1'.frozen 1; simp at c20)
            have T2 := two_rest (v' := .slice (some ⟨gh, 0, none⟩) (Z.length + 1) cq) (j := 1) (B := w.heap.size + 1 + 1 + 1) (fun k e => (e4.lt k e).1) (row_cells e4 (.cells #[.string z] 9)) g2'
            refine ⟨⟨k + 1, by omega, by go_num, ?_, T2.2.1 w2 (Nat.le_refl _) HG7.out⟩, ?_⟩
            · rw [HPA.out, HPZ.out]
              exact h2'
            · simp [intOf]; omega
    · have hge : (a.length : Int) ≤ (k : Int) := by omega
      have hzk : (a.zip b).take k = a.zip b := List.take_of_length_le (by rw [List.length_zip]; have := HAB.out; omega)
      have j2 : Blk wr (w.heap.size + 1 + 1) #[.slice none 0 0, .slice none 0 0] 29 := grown_keeps HG.out M2.out (by simp)
      have hTwo := HT.out
      rw [hzk, joinP_zip] at hTwo
      obtain ⟨A, hA⟩ : ∃ A, (joinL c d a b).map (·.1) = A := ⟨_, rfl⟩
      obtain ⟨Z, hZ⟩ : ∃ Z, (joinL c d a b).map (·.2) = Z := ⟨_, rfl⟩
      rw [hA, hZ] at hTwo
      obtain ⟨x0, y0, hb, q1, q2, _⟩ := hTwo
      obtain ⟨xb, xc, rfl⟩ := row_slice q1
      obtain ⟨yb, yc, rfl⟩ := row_slice q2
      have HA := Lib.hid hA
      have HZ := Lib.hid hZ
      clear hA hZ hzk
      have cb0 := hb.cell 0
      have cb1 := hb.cell 1
      have cc0 := j2.cell 0
      have cc1 := j2.cell 1
      have f0 := j2.frozen 0
      have f1 := j2.frozen 1
      simp at cb0 cb1 cc0 cc1
      have q3 := row_set (row_set q1 (p := ⟨w.heap.size + 1 + 1, 0, none⟩) (by simp; omega) (.slice xb A.length xc)) (p := ⟨w.heap.size + 1 + 1, 1, none⟩) (by simp; omega) (.slice yb Z.length yc)
      have q4 := row_set (row_set q2 (p := ⟨w.heap.size + 1 + 1, 0, none⟩) (by simp; omega) (.slice xb A.length xc)) (p := ⟨w.heap.size + 1 + 1, 1, none⟩) (by simp; omega) (.slice yb Z.length yc)
      have K3 := Lib.hid ((j2.set 0 (.slice xb A.length xc)).set 1 (.slice yb Z.length yc))
      have B3 := Lib.hid ((BW.out.setCell (p := ⟨w.heap.size + 1 + 1, 0, none⟩) (by simp; omega) (.slice xb A.length xc)).setCell (p := ⟨w.heap.size + 1 + 1, 1, none⟩) (by simp; omega) (.slice yb Z.length yc))
      have R := Lib.hid (show TabR w.heap.size _ (.agg #[.slice xb A.length xc, .slice yb Z.length yc]) A Z from ⟨_, _, rfl, row_mono q3 (by omega), row_mono q4 (by omega)⟩)
      clear j2 hb q1 q2 q3 q4
      go_wp2
      refine bodyPost_ret (results_cell_row rfl _ _ (w.heap.size + 1 + 1) 29 #[.slice xb A.length xc, .slice yb Z.length yc] (0, 0) _ rfl K3.out Try.underlying29 rfl (by kernel_rfl)) rfl ?_
      refine ⟨_, rfl, ?_, B3.out⟩
      rw [HA.out, HZ.out]
      exact R.out

set_option maxHeartbeats 2000000 in
theorem rjn_a (a b c d : List ByteArray) (v u v' u' : Value) (w : World) (hv : Lst stc w v a) (hu : Lst stc w u b) (hv' : Lst stc w v' c) (hu' : Lst stc w u' d)
    (hz : ∀ x ∈ a, x.size ≤ 100000) (hz' : ∀ x ∈ b, x.size ≤ 100000) (hcc : ∀ b n c, v = .slice b n c → n ≤ c) (hcc' : ∀ b n c, u = .slice b n c → n ≤ c) (hc1 : ¬ checkF a b = 0) :
    Calls Try.prog 29 #[.agg #[v, u], .agg #[v', u']] w fun e w' => ∃ V, e = .returned V ∧ TabR w.heap.size w' V [] [] ∧ Below w.heap.size w w' := by
  have hB0 := (((Below.refl w.heap.size w).alloc (Nat.le_refl _) (.cells #[v, u] 29)).alloc (by simp) (.cells #[v', u'] 29)).alloc (by simp; omega) (.cells #[.slice none 0 0, .slice none 0 0] 29)
  have hB1 := hB0.alloc hB0.size (.cells #[.slice none 0 0, .slice none 0 0] 29)
  have HB0 := Lib.hid hB1
  have CK1 := Lib.hid (rcheck_any a b v u _ (hv.below hB1) (hu.below hB1) hz hz' hcc hcc')
  generalize hq : checkF a b = q at *
  have hne : (q != 0) = true := by rw [bne_iff_ne]; exact hc1
  clear hc1 hq
  obtain ⟨va, vc, rfl⟩ := hv.slice
  obtain ⟨ua, uc, rfl⟩ := hu.slice
  obtain ⟨va', vc', rfl⟩ := hv'.slice
  obtain ⟨ua', uc', rfl⟩ := hu'.slice
  clear hv hu hv' hu' hz hz' hB0 hB1 hcc hcc'
  have k0 := (((Blk.new w #[.slice va a.length vc, .slice ua b.length uc] 29).alloc (.cells #[.slice va' c.length vc', .slice ua' d.length uc'] 29)).alloc (.cells #[.slice none 0 0, .slice none 0 0] 29)).alloc (.cells #[.slice none 0 0, .slice none 0 0] 29)
  have k1 := ((Blk.new (w.alloc (.cells #[.slice va a.length vc, .slice ua b.length uc] 29)) #[.slice va' c.length vc', .slice ua' d.length uc'] 29).alloc (.cells #[.slice none 0 0, .slice none 0 0] 29)).alloc (.cells #[.slice none 0 0, .slice none 0 0] 29)
  have k2 := (Blk.new ((w.alloc (.cells #[.slice va a.length vc, .slice ua b.length uc] 29)).alloc (.cells #[.slice va' c.length vc', .slice ua' d.length uc'] 29)) #[.slice none 0 0, .slice none 0 0] 29).alloc (.cells #[.slice none 0 0, .slice none 0 0] 29)
  have k3 := Blk.new (((w.alloc (.cells #[.slice va a.length vc, .slice ua b.length uc] 29)).alloc (.cells #[.slice va' c.length vc', .slice ua' d.length uc'] 29)).alloc (.cells #[.slice none 0 0, .slice none 0 0] 29)) #[.slice none 0 0, .slice none 0 0] 29
  rw [World.size_alloc] at k1
  rw [World.size_alloc, World.size_alloc] at k2
  rw [World.size_alloc, World.size_alloc, World.size_alloc] at k3
  have hsz : ((((w.alloc (.cells #[.slice va a.length vc, .slice ua b.length uc] 29)).alloc (.cells #[.slice va' c.length vc', .slice ua' d.length uc'] 29)).alloc (.cells #[.slice none 0 0, .slice none 0 0] 29)).alloc (.cells #[.slice none 0 0, .slice none 0 0] 29)).heap.size = w.heap.size + 4 := by simp
  have g0 := k0.cell 0
  have g1 := k0.cell 1
  simp at g0 g1
  have K1 := Lib.hid k1
  have K2 := Lib.hid k2
  have K3 := Lib.hid k3
  have HSZ := Lib.hid hsz
  clear k0 k1 k2 k3 hsz
  go_enter Try.func29, Try.ntmps29
  go_wp2_with fail
  refine CK1.out.mono ?_
  rintro e w1 ⟨rfl, b1⟩
  have B1 := Lib.hid (HB0.out.trans (b1.mono HB0.out.size))
  have hs1 : w.heap.size + 4 ≤ w1.heap.size := by have := b1.size; rw [HSZ.out] at this; exact this
  have L1 := Lib.hid (K1.out.below b1 (by rw [HSZ.out]; omega))
  have L2 := Lib.hid (K2.out.below b1 (by rw [HSZ.out]; omega))
  have L3 := Lib.hid (K3.out.below b1 (by rw [HSZ.out]; omega))
  clear b1 K1 K2 K3 HSZ g0 g1
  have c0 := L2.out.cell 0
  have c1 := L2.out.cell 1
  have f0 := L2.out.frozen 0
  have f1 := L2.out.frozen 1
  have d0 := L3.out.cell 0
  have d1 := L3.out.cell 1
  simp at c0 c1 d0 d1
  have K4 := Lib.hid ((L2.out.set 0 (.slice none 0 0)).set 1 (.slice none 0 0))
  have B4 := Lib.hid ((B1.out.setCell (p := ⟨w.heap.size + 1 + 1, 0, none⟩) (by simp; omega) (.slice none 0 0)).setCell (p := ⟨w.heap.size + 1 + 1, 1, none⟩) (by simp; omega) (.slice none 0 0))
  go_wp2
  refine bodyPost_ret (results_cell_row rfl _ _ (w.heap.size + 1 + 1) 29 #[.slice none 0 0, .slice none 0 0] (0, 0) _ rfl K4.out Try.underlying29 rfl (by kernel_rfl)) rfl ?_
  exact ⟨_, rfl, TabR.nil, B4.out⟩

set_option maxHeartbeats 2000000 in
theorem rjn_b (a b c d : List ByteArray) (v u v' u' : Value) (w : World) (hv : Lst stc w v a) (hu : Lst stc w u b) (hv' : Lst stc w v' c) (hu' : Lst stc w u' d)
    (hz : ∀ x ∈ a, x.size ≤ 100000) (hz' : ∀ x ∈ b, x.size ≤ 100000) (hcc : ∀ b n c, v = .slice b n c → n ≤ c) (hcc' : ∀ b n c, u = .slice b n c → n ≤ c) (hz2 : ∀ x ∈ c, x.size ≤ 100000) (hz3 : ∀ x ∈ d, x.size ≤ 100000) (hcc2 : ∀ b n c, v' = .slice b n c → n ≤ c) (hcc3 : ∀ b n c, u' = .slice b n c → n ≤ c) (hc1 : checkF a b = 0) (hc2 : ¬ checkF c d = 0) :
    Calls Try.prog 29 #[.agg #[v, u], .agg #[v', u']] w fun e w' => ∃ V, e = .returned V ∧ TabR w.heap.size w' V [] [] ∧ Below w.heap.size w w' := by
  have hB0 := (((Below.refl w.heap.size w).alloc (Nat.le_refl _) (.cells #[v, u] 29)).alloc (by simp) (.cells #[v', u'] 29)).alloc (by simp; omega) (.cells #[.slice none 0 0, .slice none 0 0] 29)
  have hB1 := hB0.alloc hB0.size (.cells #[.slice none 0 0, .slice none 0 0] 29)
  have HB0 := Lib.hid hB1
  have CK1 := Lib.hid (rcheck_any a b v u _ (hv.below hB1) (hu.below hB1) hz hz' hcc hcc')
  have CK2 := Lib.hid (fun (W : World) (hW : Below w.heap.size w W) => rcheck_any c d v' u' W (hv'.below hW) (hu'.below hW) hz2 hz3 hcc2 hcc3)
  rw [hc1] at CK1
  generalize hq : checkF c d = q at *
  have hne : (q != 0) = true := by rw [bne_iff_ne]; exact hc2
  clear hc1 hc2 hq
  obtain ⟨va, vc, rfl⟩ := hv.slice
  obtain ⟨ua, uc, rfl⟩ := hu.slice
  obtain ⟨va', vc', rfl⟩ := hv'.slice
  obtain ⟨ua', uc', rfl⟩ := hu'.slice
  clear hv hu hv' hu' hz hz' hB0 hB1 hcc hcc' hz2 hz3 hcc2 hcc3
  have k0 := (((Blk.new w #[.slice va a.length vc, .slice ua b.length uc] 29).alloc (.cells #[.slice va' c.length vc', .slice ua' d.length uc'] 29)).alloc (.cells #[.slice none 0 0, .slice none 0 0] 29)).alloc (.cells #[.slice none 0 0, .slice none 0 0] 29)
  have k1 := ((Blk.new (w.alloc (.cells #[.slice va a.length vc, .slice ua b.length uc] 29)) #[.slice va' c.length vc', .slice ua' d.length uc'] 29).alloc (.cells #[.slice none 0 0, .slice none 0 0] 29)).alloc (.cells #[.slice none 0 0, .slice none 0 0] 29)
  have k2 := (Blk.new ((w.alloc (.cells #[.slice va a.length vc, .slice ua b.length uc] 29)).alloc (.cells #[.slice va' c.length vc', .slice ua' d.length uc'] 29)) #[.slice none 0 0, .slice none 0 0] 29).alloc (.cells #[.slice none 0 0, .slice none 0 0] 29)
  have k3 := Blk.new (((w.alloc (.cells #[.slice va a.length vc, .slice ua b.length uc] 29)).alloc (.cells #[.slice va' c.length vc', .slice ua' d.length uc'] 29)).alloc (.cells #[.slice none 0 0, .slice none 0 0] 29)) #[.slice none 0 0, .slice none 0 0] 29
  rw [World.size_alloc] at k1
  rw [World.size_alloc, World.size_alloc] at k2
  rw [World.size_alloc, World.size_alloc, World.size_alloc] at k3
  have hsz : ((((w.alloc (.cells #[.slice va a.length vc, .slice ua b.length uc] 29)).alloc (.cells #[.slice va' c.length vc', .slice ua' d.length uc'] 29)).alloc (.cells #[.slice none 0 0, .slice none 0 0] 29)).alloc (.cells #[.slice none 0 0, .slice none 0 0] 29)).heap.size = w.heap.size + 4 := by simp
  have g0 := k0.cell 0
  have g1 := k0.cell 1
  simp at g0 g1
  have K1 := Lib.hid k1
  have K2 := Lib.hid k2
  have K3 := Lib.hid k3
  have HSZ := Lib.hid hsz
  clear k0 k1 k2 k3 hsz
  go_enter Try.func29, Try.ntmps29
  go_wp2_with fail
  refine CK1.out.mono ?_
  rintro e w1 ⟨rfl, b1⟩
  have B1 := Lib.hid (HB0.out.trans (b1.mono HB0.out.size))
  have hs1 : w.heap.size + 4 ≤ w1.heap.size := by have := b1.size; rw [HSZ.out] at this; exact this
  have L1 := Lib.hid (K1.out.below b1 (by rw [HSZ.out]; omega))
  have L2 := Lib.hid (K2.out.below b1 (by rw [HSZ.out]; omega))
  have L3 := Lib.hid (K3.out.below b1 (by rw [HSZ.out]; omega))
  clear b1 K1 K2 K3 HSZ g0 g1
  have g0 := L1.out.cell 0
  have g1 := L1.out.cell 1
  simp at g0 g1
  go_wp2_with fail
  refine (CK2.out w1 B1.out).mono ?_
  rintro e w2 ⟨rfl, b2⟩
  have B2 := Lib.hid (B1.out.trans (b2.mono B1.out.size))
  have M2 := Lib.hid (L2.out.below b2 (by omega))
  have M3 := Lib.hid (L3.out.below b2 (by omega))
  clear b2 L1 L2 L3 g0 g1 B1 HB0 CK1 CK2
  have c0 := M2.out.cell 0
  have c1 := M2.out.cell 1
  have f0 := M2.out.frozen 0
  have f1 := M2.out.frozen 1
  have d0 := M3.out.cell 0
  have d1 := M3.out.cell 1
  simp at c0 c1 d0 d1
  have K4 := Lib.hid ((M2.out.set 0 (.slice none 0 0)).set 1 (.slice none 0 0))
  have B4 := Lib.hid ((B2.out.setCell (p := ⟨w.heap.size + 1 + 1, 0, none⟩) (by simp; omega) (.slice none 0 0)).setCell (p := ⟨w.heap.size + 1 + 1, 1, none⟩) (by simp; omega) (.slice none 0 0))
  go_wp2
  refine bodyPost_ret (results_cell_row rfl _ _ (w.heap.size + 1 + 1) 29 #[.slice none 0 0, .slice none 0 0] (0, 0) _ rfl K4.out Try.underlying29 rfl (by kernel_rfl)) rfl ?_
  exact ⟨_, rfl, TabR.nil, B4.out⟩

theorem rjoin_any (a b c d : List ByteArray) (v u v' u' : Value) (w : World) (hv : Lst stc w v a) (hu : Lst stc w u b) (hv' : Lst stc w v' c) (hu' : Lst stc w u' d)
    (hz : ∀ x ∈ a, x.size ≤ 100000) (hz' : ∀ x ∈ b, x.size ≤ 100000) (hz2 : ∀ x ∈ c, x.size ≤ 100000) (hz3 : ∀ x ∈ d, x.size ≤ 100000)
    (hcc : ∀ b n c, v = .slice b n c → n ≤ c) (hcc' : ∀ b n c, u = .slice b n c → n ≤ c) (hcc2 : ∀ b n c, v' = .slice b n c → n ≤ c) (hcc3 : ∀ b n c, u' = .slice b n c → n ≤ c) :
    Calls Try.prog 29 #[.agg #[v, u], .agg #[v', u']] w fun e w' => ∃ V, e = .returned V ∧ TabR w.heap.size w' V ((joinR a b c d).map (·.1)) ((joinR a b c d).map (·.2)) ∧ Below w.heap.size w w' := by
  by_cases hc1 : checkF a b = 0
  · by_cases hc2 : checkF c d = 0
    · rw [show joinR a b c d = joinL c d a b from if_pos ⟨hc1, hc2⟩]
      exact rjn_main a b c d v u v' u' w hv hu hv' hu' hz hz' hz2 hz3 hcc hcc' hcc2 hcc3 hc1 hc2
    · rw [show joinR a b c d = [] from if_neg (fun h => hc2 h.2)]
      exact rjn_b a b c d v u v' u' w hv hu hv' hu' hz hz' hcc hcc' hz2 hz3 hcc2 hcc3 hc1 hc2
  · rw [show joinR a b c d = [] from if_neg (fun h => hc1 h.1)]
    exact rjn_a a b c d v u v' u' w hv hu hv' hu' hz hz' hcc hcc' hc1
end Go.Proofs.Ytadodccciejghaa
