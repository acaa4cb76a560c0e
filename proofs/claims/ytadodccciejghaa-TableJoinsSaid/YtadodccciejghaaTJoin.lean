/- One table behind another one. -/
import Derived.Test.YtadodccciejghaaTMap
import Derived.Laws.EntriesVeiled
namespace Go.Proofs.Ytadodccciejghaa
open Go.RowKit Go.Maps Go.Shelf
attribute [local go_sem] Oper.semAt_some
set_option maxRecDepth 100000

/-- one table behind another one, pair by pair -/
def joinP (c d : List ByteArray) (l : List (ByteArray × ByteArray)) : List (ByteArray × ByteArray) := l.filterMap fun p => (goL c d p.2).map fun z => (p.1, z)
theorem joinP_zip (c d : List ByteArray) : ∀ a b : List ByteArray, joinP c d (a.zip b) = joinL c d a b
  | [], b => by simp [joinP, joinL]
  | x :: a, [] => by simp [joinP, joinL]
  | x :: a, y :: b => by
    have ih := joinP_zip c d a b
    unfold joinP at ih ⊢
    rw [List.zip_cons_cons, List.filterMap_cons, joinL]
    simp only
    cases goL c d y with
    | none => exact ih
    | some z => simp only [Option.map_some]; rw [ih]
theorem joinP_no (c d : List ByteArray) (l : List (ByteArray × ByteArray)) (x y : ByteArray) (h : goL c d y = none) : joinP c d (l ++ [(x, y)]) = joinP c d l := by
  unfold joinP
  rw [List.filterMap_append]
  simp [h]
theorem joinP_yes (c d : List ByteArray) (l : List (ByteArray × ByteArray)) (x y z : ByteArray) (h : goL c d y = some z) : joinP c d (l ++ [(x, y)]) = joinP c d l ++ [(x, z)] := by
  unfold joinP
  rw [List.filterMap_append]
  simp [h]
theorem joinP_len (c d : List ByteArray) (l : List (ByteArray × ByteArray)) : (joinP c d l).length ≤ l.length := List.length_filterMap_le _ _
def joinR (a b c d : List ByteArray) : List (ByteArray × ByteArray) := if checkF a b = 0 ∧ checkF c d = 0 then joinL c d a b else []

/-- between two rounds -/
def jnI (W4 : World) (B : Nat) (c d : List ByteArray) (pre : List (ByteArray × ByteArray)) (W : World) : Prop :=
  pre.length ≤ 200 ∧ Two 24 B W4.heap.size W ((joinP c d pre).map (·.1)) ((joinP c d pre).map (·.2)) ∧ W4.grownBy W (some B)
theorem jnI_own (W4 : World) (B : Nat) (hB : B < W4.heap.size) (c d : List ByteArray) : OwnFrom W4.heap.size (jnI W4 B c d) := by
  rintro pre W W' row ⟨h1, h2, h3⟩ hg hr
  exact ⟨h1, h2.kept hg (fun r e => ⟨by have := (hr r e).1; omega, .inr (.inr (hr r e).2)⟩), grown_more h3 hg (fun r e => (hr r e).1)⟩

set_option maxHeartbeats 4000000 in
theorem tjn_main (a b c d : List ByteArray) (v u v' u' : Value) (w : World) (hv : Lst stc w v a) (hu : Lst stc w u b) (hv' : Lst stc w v' c) (hu' : Lst stc w u' d)
    (hz : ∀ x ∈ a, x.size ≤ maxLen) (hz' : ∀ x ∈ b, x.size ≤ maxLen) (hz2 : ∀ x ∈ c, x.size ≤ maxLen) (hz3 : ∀ x ∈ d, x.size ≤ maxLen) (hc1 : checkF a b = 0) (hc2 : checkF c d = 0) :
    Calls Try.prog 28 #[.agg #[v, u], .agg #[v', u']] w fun e w' => ∃ V, e = .returned V ∧ TabR w.heap.size w' V ((joinL c d a b).map (·.1)) ((joinL c d a b).map (·.2)) ∧ Below w.heap.size w w' := by
  obtain ⟨i0, hi, hq0, hq1, hq2⟩ := info_parts info9
  have hB0 := (((Below.refl w.heap.size w).alloc (Nat.le_refl _) (.cells #[v, u] 24)).alloc (by simp) (.cells #[v', u'] 24)).alloc (by simp; omega) (.cells #[.slice none 0 0, .slice none 0 0] 24)
  have HB0 := Lib.hid hB0
  have CK1 := Lib.hid (tcheck_any a b v u _ (hv.below hB0) (hu.below hB0) hz hz')
  have hok1 := (check_ok a b).1 hc1
  have hok2 := (check_ok c d).1 hc2
  rw [hc1] at CK1
  have HV := Lib.hid hv
  have HU := Lib.hid hu
  have HV' := Lib.hid hv'
  have HU' := Lib.hid hu'
  have HZ' := Lib.hid hz'
  have HZ2 := Lib.hid hz2
  have CK2 := Lib.hid (fun (W : World) (hW : Below w.heap.size w W) => hc2 ▸ tcheck_any c d v' u' W (hv'.below hW) (hu'.below hW) hz2 hz3)
  have HAL := Lib.hid hok1.1
  have HAB := Lib.hid hok1.2.1
  have HCD := Lib.hid hok2.2.1
  have HON := Lib.hid hok2.2.2.2.2.1
  have hcl : c.length ≤ 100000 := by have := hok2.1; omega
  clear hok1 hok2 hc1 hc2
  obtain ⟨va, vc, rfl⟩ := hv.slice
  obtain ⟨ua, uc, rfl⟩ := hu.slice
  obtain ⟨va', vc', rfl⟩ := hv'.slice
  obtain ⟨ua', uc', rfl⟩ := hu'.slice
  clear hv hu hv' hu' hz hz' hz2 hz3 hB0
  have k0 := ((Blk.new w #[.slice va a.length vc, .slice ua b.length uc] 24).alloc (.cells #[.slice va' c.length vc', .slice ua' d.length uc'] 24)).alloc (.cells #[.slice none 0 0, .slice none 0 0] 24)
  have k1 := (Blk.new (w.alloc (.cells #[.slice va a.length vc, .slice ua b.length uc] 24)) #[.slice va' c.length vc', .slice ua' d.length uc'] 24).alloc (.cells #[.slice none 0 0, .slice none 0 0] 24)
  have k2 := Blk.new ((w.alloc (.cells #[.slice va a.length vc, .slice ua b.length uc] 24)).alloc (.cells #[.slice va' c.length vc', .slice ua' d.length uc'] 24)) #[.slice none 0 0, .slice none 0 0] 24
  rw [World.size_alloc] at k1
  rw [World.size_alloc, World.size_alloc] at k2
  have hsz : (((w.alloc (.cells #[.slice va a.length vc, .slice ua b.length uc] 24)).alloc (.cells #[.slice va' c.length vc', .slice ua' d.length uc'] 24)).alloc (.cells #[.slice none 0 0, .slice none 0 0] 24)).heap.size = w.heap.size + 3 := by simp
  have K0 := Lib.hid k0
  have K1 := Lib.hid k1
  have K2 := Lib.hid k2
  have HSZ := Lib.hid hsz
  have g0 := k0.cell 0
  have g1 := k0.cell 1
  simp at g0 g1
  clear k0 k1 k2 hsz
  have hmf : ∀ (fn : Fn) (first cap : Array Value) (w : World), (Instr.makeFunc fn first cap).run Try.prog w = .ok (.func fn first cap) w := fun _ _ _ _ => rfl
  refine (callsIn_wide (n := 5)).1 ?_
  refine callsIn_of_wp_marks Try.func28 rfl trivial ?_ rfl
  simp only [Try.ntmps28, List.size_toArray, List.length_cons, List.length_nil, Nat.reduceAdd, Nat.reduceSub, Array.replicate_succ, Array.replicate_zero, List.push_toArray, List.append_toArray, List.nil_append, List.cons_append]
  gi_wp2_with fail
  refine ⟨trivial, (callsIn_wide.2 CK1.out).mono ?_⟩
  rintro e w1 ⟨rfl, b1⟩
  have B1 := Lib.hid (HB0.out.trans (b1.mono HB0.out.size))
  have hs1 : w.heap.size + 3 ≤ w1.heap.size := by have := b1.size; rw [HSZ.out] at this; exact this
  have L0 := Lib.hid (K0.out.below b1 (by rw [HSZ.out]; omega))
  have L1 := Lib.hid (K1.out.below b1 (by rw [HSZ.out]; omega))
  have L2 := Lib.hid (K2.out.below b1 (by rw [HSZ.out]; omega))
  clear b1 K0 K1 K2 HSZ g0 g1
  have g0 := L1.out.cell 0
  have g1 := L1.out.cell 1
  simp at g0 g1
  gi_wp2_with fail
  refine ⟨trivial, (callsIn_wide.2 (CK2.out w1 B1.out)).mono ?_⟩
  rintro e w2 ⟨rfl, b2⟩
  have B2 := Lib.hid (B1.out.trans (b2.mono B1.out.size))
  have hs2 : w.heap.size + 3 ≤ w2.heap.size := Nat.le_trans hs1 b2.size
  have M0 := Lib.hid (L0.out.below b2 (by omega))
  have M1 := Lib.hid (L1.out.below b2 (by omega))
  have M2 := Lib.hid (L2.out.below b2 (by omega))
  clear b2 L0 L1 L2 g0 g1 B1 HB0 CK1 CK2
  have b3 : Below w2.heap.size w2 (w2.alloc (.cells #[.slice none 0 0, .slice none 0 0] 24)) := (Below.refl _ _).alloc (Nat.le_refl _) _
  have N0 := Lib.hid (M0.out.below b3 (by omega))
  have N1 := Lib.hid (M1.out.below b3 (by omega))
  have N2 := Lib.hid (M2.out.below b3 (by omega))
  have NB := Lib.hid (Blk.new w2 #[.slice none 0 0, .slice none 0 0] 24)
  have B3 := Lib.hid (B2.out.trans (b3.mono B2.out.size))
  have V3 := Lib.hid (HV'.out.below B3.out)
  clear b3
  have hs3 : (w2.alloc (.cells #[.slice none 0 0, .slice none 0 0] 24)).heap.size = w2.heap.size + 1 := by simp
  have g0 := N1.out.cell 0
  simp at g0
  gi_wp2_with fail
  generalize hW3 : w2.alloc (.cells #[.slice none 0 0, .slice none 0 0] 24) = W3 at *
  refine ⟨trivial, (callsIn_wide.2 (side_any c _ _ hcl HZ2.out V3.out)).mono ?_⟩
  rintro e w4 ⟨bm, rfl, hbl, hbm, hown, b4⟩
  have P0 := Lib.hid (N0.out.below b4 (by omega))
  have P1 := Lib.hid (N1.out.below b4 (by omega))
  have P2 := Lib.hid (N2.out.below b4 (by omega))
  have PB := Lib.hid (NB.out.below b4 (by omega))
  have B4 := Lib.hid (B3.out.trans (b4.mono B3.out.size))
  have hs4 : w2.heap.size + 1 ≤ w4.heap.size := by have := b4.size; omega
  have OW := Lib.hid hown
  clear b4 N0 N1 N2 NB hown g0 B3 V3 M0 M1 M2 B2
  generalize twB c c.length = tw at *
  have Q0 := Lib.hid (P0.out.alloc (.cells #[plV bm tw] 98))
  have Q1 := Lib.hid (P1.out.alloc (.cells #[plV bm tw] 98))
  have Q2 := Lib.hid (P2.out.alloc (.cells #[plV bm tw] 98))
  have QB := Lib.hid (PB.out.alloc (.cells #[plV bm tw] 98))
  have QF := Lib.hid (Blk.new w4 #[plV bm tw] 98)
  have B5 := Lib.hid (B4.out.alloc B4.out.size (.cells #[plV bm tw] 98))
  have O5 := Lib.hid (OW.out.alloc (.cells #[plV bm tw] 98))
  have hs5 : (w4.alloc (.cells #[plV bm tw] 98)).heap.size = w4.heap.size + 1 := by simp
  have HS5 := Lib.hid hs5
  have g0 := Q0.out.cell 0
  have g1 := Q0.out.cell 1
  simp [plV] at g0 g1
  clear P0 P1 P2 PB B4 OW hs5
  gi_wp2_with fail
  refine ⟨trivial, (callsIn_wide.2 (mkpairs (.slice va a.length vc) (.slice ua b.length uc) _)).mono ?_⟩
  rintro e w' ⟨rfl, rfl⟩
  gi_wp2_with fail
  have bN := Blk.new (w4.alloc (.cells #[plV bm tw] 98)) #[.slice va a.length vc, .slice ua b.length uc] 24
  rw [HS5.out] at bN
  have r0 := Lib.hid (Q0.out.alloc (.cells #[.slice va a.length vc, .slice ua b.length uc] 24))
  have r1 := Lib.hid (Q1.out.alloc (.cells #[.slice va a.length vc, .slice ua b.length uc] 24))
  have r2 := Lib.hid (Q2.out.alloc (.cells #[.slice va a.length vc, .slice ua b.length uc] 24))
  have rB := Lib.hid (QB.out.alloc (.cells #[.slice va a.length vc, .slice ua b.length uc] 24))
  have rF := Lib.hid (QF.out.alloc (.cells #[.slice va a.length vc, .slice ua b.length uc] 24))
  have o6 := Lib.hid (O5.out.alloc (.cells #[.slice va a.length vc, .slice ua b.length uc] 24))
  have b6 := B5.out.alloc B5.out.size (.cells #[.slice va a.length vc, .slice ua b.length uc] 24)
  have hs6 : ((w4.alloc (.cells #[plV bm tw] 98)).alloc (.cells #[.slice va a.length vc, .slice ua b.length uc] 24)).heap.size = w4.heap.size + 2 := by simp
  clear Q0 Q1 Q2 QB QF O5 B5 HS5 g0 g1
  change Code.wpIn _ _ _ _ _ _ ((w4.alloc (.cells #[plV bm tw] 98)).alloc (.cells #[.slice va a.length vc, .slice ua b.length uc] 24))
  generalize (w4.alloc (.cells #[plV bm tw] 98)).alloc (.cells #[.slice va a.length vc, .slice ua b.length uc] 24) = W6 at *
  have i0 : jnI W6 w2.heap.size c d [] W6 := ⟨by simp, ⟨_, _, rB.out, World.ownsRow_nil _ _ _ _, World.ownsRow_nil _ _ _ _, .inl rfl⟩, World.grownBy.refl _ _⟩
  have I0 := Lib.hid i0
  have HB6 := Lib.hid b6
  clear i0
  refine range_over (α := ByteArray × ByteArray) (gf := 95) (lb := #[.pointer (some ⟨w4.heap.size + 1, 0, none⟩)]) (N := 201) (encs := strsOf) (R := fun _ => False) (Kp := KeptB w.heap.size (w4.heap.size + 1)) rfl (by omega) rfl trivial (enters_of Try.func95 (by kernel_rfl) rfl)
    (pairs_iter (w4.heap.size + 1) 201 a b _ _ w W6 (by have := HAL.out; omega) HAB.out HV.out HU.out b6 bN) (fun r h => h.elim) (fun h k => h.trans k) (fun W l o hlw => ⟨by simp, fun k hk => World.putObj_heap_other (by omega), World.putObj_heap_other (by omega)⟩) (fun _ => rfl)
    (jnI W6 w2.heap.size c d) (fun _ _ _ => False) (jnI_own W6 _ (by omega) c d) (fun pre W1 h => by have := h.1; omega)
    (fun pre A B row h hg hr => ⟨h.1, h.2.1.kept hg (fun r e => (hr r e).elim), grown_more h.2.2 hg (fun r e => (hr r e).elim)⟩) (fun _ _ _ _ _ hs _ _ => hs) I0.out ?a1 ?assign ?body ?done ?stop
  case assign =>
    intro l x W K hK
    unfold strsOf
    gi_wp2
    exact hK
  case stop =>
    rintro D cd pre W hD hS hx
    exact hx.elim
  case body =>
    rintro l pre ⟨x1, x2⟩ W hsW ⟨h1, hTwo, hgr⟩ hlt ⟨k, hpf⟩
    have hlen : (pre ++ [(x1, x2)]).length ≤ 200 := by
      rw [hpf, List.length_take, List.length_zip]
      have := HAL.out
      omega
    have hmem : (x1, x2) ∈ (a.zip b).take k := by rw [← hpf]; simp
    have hxz := HZ'.out x2 (List.of_mem_zip (List.mem_of_mem_take hmem)).2
    have HLEN := Lib.hid hlen
    have bW := HB6.out.grown hgr HB6.out.size (fun j e => by cases e; omega)
    have UW := HU'.out.below bW
    have OWN := o6.out.kept hgr (by simp; omega)
    have j6 : Blk W w4.heap.size #[plV bm tw] 98 := grown_keeps hgr rF.out (by simp; omega)
    have ju : Blk W (w.heap.size + 1) #[.slice va' c.length vc', .slice ua' d.length uc'] 24 := grown_keeps hgr r1.out (by simp; omega)
    have c6 := j6.cell 0
    have cu := ju.cell 1
    simp [plV] at c6 cu
    have HAC := Lib.hid (across_any c d _ x2 bm tw W HON.out HCD.out hxz OWN UW)
    have BW := Lib.hid bW
    have HT := Lib.hid hTwo
    have HG := Lib.hid hgr
    have HL1 := Lib.hid (joinP_len c d pre)
    clear j6 ju hlen hmem bW UW OWN hTwo hgr hpf
    obtain ⟨q, hq⟩ : ∃ q, goL c d x2 = q := ⟨_, rfl⟩
    rw [goF_res, hq] at HAC
    have HQ := Lib.hid hq
    clear hq
    simp only []
    cases q with
    | none =>
      change Hid (Calls _ _ _ _ fun e w' => e = .returned (.tuple #[.string ⟨#[]⟩, .bool false]) ∧ _) at HAC
      have HP := Lib.hid (joinP_no c d pre x1 x2 HQ.out)
      gi_wp2_with fail
      refine ⟨trivial, (callsIn_wide.2 HAC.out).mono ?_⟩
      rintro e W5 ⟨rfl, b5⟩
      have F5 := Lib.hid b5
      clear b5
      gi_wp2
      refine ⟨KeepsFrom.of_grownBy (below_grown F5.out) (by simp), ⟨F5.out.size, fun k hk => F5.out.block k (by omega), F5.out.block _ (by omega)⟩, HLEN.out, ?_, grown_below HG.out F5.out⟩
      rw [HP.out]
      exact HT.out.below F5.out
    | some z =>
      change Hid (Calls _ _ _ _ fun e w' => e = .returned (.tuple #[.string z, .bool true]) ∧ _) at HAC
      have HP := Lib.hid (joinP_yes c d pre x1 x2 z HQ.out)
      obtain ⟨A, hA⟩ : ∃ A, (joinP c d pre).map (·.1) = A := ⟨_, rfl⟩
      obtain ⟨Z, hZ⟩ : ∃ Z, (joinP c d pre).map (·.2) = Z := ⟨_, rfl⟩
      have hAl : A.length ≤ 200 := by rw [← hA]; have := HL1.out; simp; omega
      have hZl : Z.length ≤ 200 := by rw [← hZ]; have := HL1.out; simp; omega
      rw [hA, hZ] at HT
      have HPA := Lib.hid (show (joinP c d (pre ++ [(x1, x2)])).map (·.1) = A ++ [x1] by rw [HP.out, List.map_append, hA]; rfl)
      have HPZ := Lib.hid (show (joinP c d (pre ++ [(x1, x2)])).map (·.2) = Z ++ [z] by rw [HP.out, List.map_append, hZ]; rfl)
      clear hA hZ HP
      gi_wp2_with fail
      refine ⟨trivial, (callsIn_wide.2 HAC.out).mono ?_⟩
      rintro e W5 ⟨rfl, b5⟩
      have hs7 : W6.heap.size ≤ W5.heap.size := Nat.le_trans hsW b5.size
      have HG5 := Lib.hid (grown_below HG.out b5)
      have KF5 := Lib.hid (KeepsFrom.of_grownBy (B := W6.heap.size) (below_grown b5) (by simp))
      have KB5 := Lib.hid (show KeptB w.heap.size (w4.heap.size + 1) W W5 from ⟨b5.size, fun k hk => b5.block k (by omega), b5.block _ (by omega)⟩)
      obtain ⟨x0, y0, hb, q1, q2, hd⟩ := HT.out.below b5
      clear b5 HT HG HAC c6 cu
      have cb0 := hb.cell 0
      have cb1 := hb.cell 1
      simp at cb0 cb1
      gi_wp2_with (first | (gi_at_builtin; refine wpListIn_append_two _ rfl _ _ 22 rfl W6.heap.size 9 i0 (.string ⟨#[]⟩) 1 16 Try.underlying22 hi hq0 hq1 hq2 rfl (by decide) _ _ _ rfl (q1.alloc _) ⟨W5.heap.size, 0, none⟩ 1 1 [.string x1] rfl rfl (cell_one_new _ _ _) (by simp [Value.oneCell']) (by unfold maxLen; omega) (by omega) (by simp; omega) ?_; intro v1 w1' o1 g1' k1'; obtain ⟨gg, cp, rfl⟩ := ownsRow_succ o1; obtain ⟨e1, e2, e3, e4, e5⟩ := two_fst (by omega) hb q1 q2 hd o1 g1' k1'; have c10 := e1.cell 0; have f10 := e1.frozen 0; have c11 := e2.cell 1; simp at c10 c11; clear e1) | (gi_at_builtin; refine wpListIn_append_two _ rfl _ _ 22 rfl W6.heap.size 9 i0 (.string ⟨#[]⟩) 1 16 Try.underlying22 hi hq0 hq1 hq2 rfl (by decide) _ _ _ rfl (e4.alloc _) ⟨w1'.heap.size, 0, none⟩ 1 1 [.string z] rfl rfl (by simpa using cell_one_new (w1'.setCell ⟨w2.heap.size, 0, none⟩ (.slice (some ⟨gg, 0, none⟩) (A.length + 1) cp)) (.string z) 9) (by simp [Value.oneCell']) (by unfold maxLen; omega) (by omega) (by have := e3.lt gg rfl; simp at this ⊢; omega) ?_; intro v2 w2' o2 g2' k2'; obtain ⟨gh, cq, rfl⟩ := ownsRow_succ o2; obtain ⟨h1', h2'⟩ := two_snd (by omega) e2 e3 e4 e5 o2 g2' k2'; have c20 := h1'.cell 1; have f20 := h1'.frozen 1; simp at c20))
      have T1 := two_rest (v' := .slice (some ⟨gg, 0, none⟩) (A.length + 1) cp) (j := 0) (B := w2.heap.size) (fun k e => (q1.lt k e).1) (row_cells q1 (.cells #[.string x1] 9)) g1'
      have T2 := two_rest (v' := .slice (some ⟨gh, 0, none⟩) (Z.length + 1) cq) (j := 1) (B := w2.heap.size) (fun k e => (e4.lt k e).1) (row_cells e4 (.cells #[.string z] 9)) g2'
      have hsz7 := T1.1.size
      refine ⟨KF5.out.trans ((T1.1.from _).trans (T2.1.from _)), KB5.out.trans (KeptB.trans ⟨T1.1.size, fun k hk => T1.2.2 k (by omega) (by omega) (by omega), T1.2.2 _ (by omega) (by omega) (by omega)⟩ ⟨T2.1.size, fun k hk => T2.2.2 k (by omega) (by omega) (by omega), T2.2.2 _ (by omega) (by omega) (by omega)⟩), HLEN.out, ?_, T2.2.1 W6 (Nat.le_refl _) (T1.2.1 W6 (Nat.le_refl _) HG5.out)⟩
      rw [HPA.out, HPZ.out]
      exact h2'
  case done =>
    rintro D ys W hD rfl ⟨_, hTwo, hgr⟩ hK
    have BW := Lib.hid (HB6.out.grown hgr HB6.out.size (fun j e => by cases e; omega))
    have j2 : Blk W (w.heap.size + 1 + 1) #[.slice none 0 0, .slice none 0 0] 24 := grown_keeps hgr r2.out (by simp; omega)
    obtain ⟨A, hA⟩ : ∃ A, (joinL c d a b).map (·.1) = A := ⟨_, rfl⟩
    obtain ⟨Z, hZ⟩ : ∃ Z, (joinL c d a b).map (·.2) = Z := ⟨_, rfl⟩
    rw [joinP_zip, hA, hZ] at hTwo
    obtain ⟨x0, y0, hb, q1, q2, _⟩ := hTwo
    obtain ⟨xb, xc, rfl⟩ := row_slice q1
    obtain ⟨yb, yc, rfl⟩ := row_slice q2
    have HA := Lib.hid hA
    have HZ := Lib.hid hZ
    clear hA hZ
    have cb0 := hb.cell 0
    have cb1 := hb.cell 1
    have c0 := j2.cell 0
    have c1 := j2.cell 1
    have f0 := j2.frozen 0
    have f1 := j2.frozen 1
    simp at cb0 cb1 c0 c1
    have hDn : D ≠ w.heap.size + 1 + 1 := by omega
    have q3 := row_set (row_set q1 (p := ⟨w.heap.size + 1 + 1, 0, none⟩) (by simp; omega) (.slice xb A.length xc)) (p := ⟨w.heap.size + 1 + 1, 1, none⟩) (by simp; omega) (.slice yb Z.length yc)
    have q4 := row_set (row_set q2 (p := ⟨w.heap.size + 1 + 1, 0, none⟩) (by simp; omega) (.slice xb A.length xc)) (p := ⟨w.heap.size + 1 + 1, 1, none⟩) (by simp; omega) (.slice yb Z.length yc)
    have k3 := (j2.set 0 (.slice xb A.length xc)).set 1 (.slice yb Z.length yc)
    have d3 : ((W.setCell ⟨w.heap.size + 1 + 1, 0, none⟩ (.slice xb A.length xc)).setCell ⟨w.heap.size + 1 + 1, 1, none⟩ (.slice yb Z.length yc)).heap[D]? = some (.deferred (some [])) :=
      (RowKit.Below.heap_setCell _ _ _ _ hDn).trans ((RowKit.Below.heap_setCell _ _ _ _ hDn).trans hK)
    have b3 := (BW.out.setCell (p := ⟨w.heap.size + 1 + 1, 0, none⟩) (by simp; omega) (.slice xb A.length xc)).setCell (p := ⟨w.heap.size + 1 + 1, 1, none⟩) (by simp; omega) (.slice yb Z.length yc)
    have R := Lib.hid (show TabR w.heap.size (((W.setCell ⟨w.heap.size + 1 + 1, 0, none⟩ (.slice xb A.length xc)).setCell ⟨w.heap.size + 1 + 1, 1, none⟩ (.slice yb Z.length yc)).putObj D (.deferred none)) (.agg #[.slice xb A.length xc, .slice yb Z.length yc]) A Z from
      ⟨_, _, rfl, row_mono (ownsRow_putObj q3 _ d3 rfl) (by omega), row_mono (ownsRow_putObj q4 _ d3 rfl) (by omega)⟩)
    have HB := Lib.hid (b3.trans (belowK_b (w := w) (Nat.le_refl _) _ D _ (.deferred none) (by omega) d3 rfl rfl))
    have K9 := Lib.hid (show Blk (((W.setCell ⟨w.heap.size + 1 + 1, 0, none⟩ (.slice xb A.length xc)).setCell ⟨w.heap.size + 1 + 1, 1, none⟩ (.slice yb Z.length yc)).putObj D (.deferred none)) (w.heap.size + 1 + 1) #[.slice xb A.length xc, .slice yb Z.length yc] 24 from (World.putObj_heap_other (Ne.symm hDn)).trans k3)
    have D3 := Lib.hid d3
    clear hK j2 hb q1 q2 q3 q4 k3 d3 b3 hgr
    gi_wp2
    refine ⟨by simp, .inl ⟨_, _, rfl, run_takeDeferred D3.out, ?_⟩⟩
    refine ⟨_, results_cell_row rfl _ _ (w.heap.size + 1 + 1) 24 #[.slice xb A.length xc, .slice yb Z.length yc] (0, 0) _ rfl K9.out Try.underlying24 rfl (by kernel_rfl), _, rfl, ?_, HB.out⟩
    rw [HA.out, HZ.out]
    exact R.out

set_option maxHeartbeats 2000000 in
theorem tjn_a (a b c d : List ByteArray) (v u v' u' : Value) (w : World) (hv : Lst stc w v a) (hu : Lst stc w u b) (hv' : Lst stc w v' c) (hu' : Lst stc w u' d)
    (hz : ∀ x ∈ a, x.size ≤ maxLen) (hz' : ∀ x ∈ b, x.size ≤ maxLen) (hc1 : ¬ checkF a b = 0) :
    Calls Try.prog 28 #[.agg #[v, u], .agg #[v', u']] w fun e w' => ∃ V, e = .returned V ∧ TabR w.heap.size w' V [] [] ∧ Below w.heap.size w w' := by
  have hB0 := (((Below.refl w.heap.size w).alloc (Nat.le_refl _) (.cells #[v, u] 24)).alloc (by simp) (.cells #[v', u'] 24)).alloc (by simp; omega) (.cells #[.slice none 0 0, .slice none 0 0] 24)
  have HB0 := Lib.hid hB0
  have CK1 := Lib.hid (tcheck_any a b v u _ (hv.below hB0) (hu.below hB0) hz hz')
  generalize hq : checkF a b = q at *
  have hne : (q != 0) = true := by rw [bne_iff_ne]; exact hc1
  clear hc1 hq
  obtain ⟨va, vc, rfl⟩ := hv.slice
  obtain ⟨ua, uc, rfl⟩ := hu.slice
  obtain ⟨va', vc', rfl⟩ := hv'.slice
  obtain ⟨ua', uc', rfl⟩ := hu'.slice
  clear hv hu hv' hu' hz hz' hB0
  have k1 := (Blk.new (w.alloc (.cells #[.slice va a.length vc, .slice ua b.length uc] 24)) #[.slice va' c.length vc', .slice ua' d.length uc'] 24).alloc (.cells #[.slice none 0 0, .slice none 0 0] 24)
  have k2 := Blk.new ((w.alloc (.cells #[.slice va a.length vc, .slice ua b.length uc] 24)).alloc (.cells #[.slice va' c.length vc', .slice ua' d.length uc'] 24)) #[.slice none 0 0, .slice none 0 0] 24
  have k0 := ((Blk.new w #[.slice va a.length vc, .slice ua b.length uc] 24).alloc (.cells #[.slice va' c.length vc', .slice ua' d.length uc'] 24)).alloc (.cells #[.slice none 0 0, .slice none 0 0] 24)
  have g0 := k0.cell 0
  have g1 := k0.cell 1
  simp at g0 g1
  rw [World.size_alloc] at k1
  rw [World.size_alloc, World.size_alloc] at k2
  have hsz : (((w.alloc (.cells #[.slice va a.length vc, .slice ua b.length uc] 24)).alloc (.cells #[.slice va' c.length vc', .slice ua' d.length uc'] 24)).alloc (.cells #[.slice none 0 0, .slice none 0 0] 24)).heap.size = w.heap.size + 3 := by simp
  have K1 := Lib.hid k1
  have K2 := Lib.hid k2
  have HSZ := Lib.hid hsz
  clear k0 k1 k2 hsz
  go_enter Try.func28, Try.ntmps28
  go_wp2_with fail
  refine CK1.out.mono ?_
  rintro e w1 ⟨rfl, b1⟩
  have B1 := Lib.hid (HB0.out.trans (b1.mono HB0.out.size))
  have hs1 : w.heap.size + 3 ≤ w1.heap.size := by have := b1.size; rw [HSZ.out] at this; exact this
  have L1 := Lib.hid (K1.out.below b1 (by rw [HSZ.out]; omega))
  have L2 := Lib.hid (K2.out.below b1 (by rw [HSZ.out]; omega))
  clear b1 K1 K2 HSZ g0 g1
  have c0 := L2.out.cell 0
  have c1 := L2.out.cell 1
  have f0 := L2.out.frozen 0
  have f1 := L2.out.frozen 1
  simp at c0 c1
  have K3 := Lib.hid ((L2.out.set 0 (.slice none 0 0)).set 1 (.slice none 0 0))
  have B3 := Lib.hid ((B1.out.setCell (p := ⟨w.heap.size + 1 + 1, 0, none⟩) (by simp; omega) (.slice none 0 0)).setCell (p := ⟨w.heap.size + 1 + 1, 1, none⟩) (by simp; omega) (.slice none 0 0))
  go_wp2
  refine bodyPost_ret (results_cell_row rfl _ _ (w.heap.size + 1 + 1) 24 #[.slice none 0 0, .slice none 0 0] (0, 0) _ rfl K3.out Try.underlying24 rfl (by kernel_rfl)) rfl ?_
  exact ⟨_, rfl, TabR.nil, B3.out⟩

set_option maxHeartbeats 2000000 in
theorem tjn_b (a b c d : List ByteArray) (v u v' u' : Value) (w : World) (hv : Lst stc w v a) (hu : Lst stc w u b) (hv' : Lst stc w v' c) (hu' : Lst stc w u' d)
    (hz : ∀ x ∈ a, x.size ≤ maxLen) (hz' : ∀ x ∈ b, x.size ≤ maxLen) (hz2 : ∀ x ∈ c, x.size ≤ maxLen) (hz3 : ∀ x ∈ d, x.size ≤ maxLen) (hc1 : checkF a b = 0) (hc2 : ¬ checkF c d = 0) :
    Calls Try.prog 28 #[.agg #[v, u], .agg #[v', u']] w fun e w' => ∃ V, e = .returned V ∧ TabR w.heap.size w' V [] [] ∧ Below w.heap.size w w' := by
  have hB0 := (((Below.refl w.heap.size w).alloc (Nat.le_refl _) (.cells #[v, u] 24)).alloc (by simp) (.cells #[v', u'] 24)).alloc (by simp; omega) (.cells #[.slice none 0 0, .slice none 0 0] 24)
  have HB0 := Lib.hid hB0
  have CK1 := Lib.hid (tcheck_any a b v u _ (hv.below hB0) (hu.below hB0) hz hz')
  have CK2 := Lib.hid (fun (W : World) (hW : Below w.heap.size w W) => tcheck_any c d v' u' W (hv'.below hW) (hu'.below hW) hz2 hz3)
  rw [hc1] at CK1
  generalize hq : checkF c d = q at *
  have hne : (q != 0) = true := by rw [bne_iff_ne]; exact hc2
  clear hc1 hc2 hq
  obtain ⟨va, vc, rfl⟩ := hv.slice
  obtain ⟨ua, uc, rfl⟩ := hu.slice
  obtain ⟨va', vc', rfl⟩ := hv'.slice
  obtain ⟨ua', uc', rfl⟩ := hu'.slice
  clear hv hu hv' hu' hz hz' hB0 hz2 hz3
  have k1 := (Blk.new (w.alloc (.cells #[.slice va a.length vc, .slice ua b.length uc] 24)) #[.slice va' c.length vc', .slice ua' d.length uc'] 24).alloc (.cells #[.slice none 0 0, .slice none 0 0] 24)
  have k2 := Blk.new ((w.alloc (.cells #[.slice va a.length vc, .slice ua b.length uc] 24)).alloc (.cells #[.slice va' c.length vc', .slice ua' d.length uc'] 24)) #[.slice none 0 0, .slice none 0 0] 24
  have k0 := ((Blk.new w #[.slice va a.length vc, .slice ua b.length uc] 24).alloc (.cells #[.slice va' c.length vc', .slice ua' d.length uc'] 24)).alloc (.cells #[.slice none 0 0, .slice none 0 0] 24)
  have g0 := k0.cell 0
  have g1 := k0.cell 1
  simp at g0 g1
  rw [World.size_alloc] at k1
  rw [World.size_alloc, World.size_alloc] at k2
  have hsz : (((w.alloc (.cells #[.slice va a.length vc, .slice ua b.length uc] 24)).alloc (.cells #[.slice va' c.length vc', .slice ua' d.length uc'] 24)).alloc (.cells #[.slice none 0 0, .slice none 0 0] 24)).heap.size = w.heap.size + 3 := by simp
  have K1 := Lib.hid k1
  have K2 := Lib.hid k2
  have HSZ := Lib.hid hsz
  clear k0 k1 k2 hsz
  go_enter Try.func28, Try.ntmps28
  go_wp2_with fail
  refine CK1.out.mono ?_
  rintro e w1 ⟨rfl, b1⟩
  have B1 := Lib.hid (HB0.out.trans (b1.mono HB0.out.size))
  have hs1 : w.heap.size + 3 ≤ w1.heap.size := by have := b1.size; rw [HSZ.out] at this; exact this
  have L1 := Lib.hid (K1.out.below b1 (by rw [HSZ.out]; omega))
  have L2 := Lib.hid (K2.out.below b1 (by rw [HSZ.out]; omega))
  clear b1 K1 K2 HSZ g0 g1
  have g0 := L1.out.cell 0
  have g1 := L1.out.cell 1
  simp at g0 g1
  go_wp2_with fail
  refine (CK2.out w1 B1.out).mono ?_
  rintro e w2 ⟨rfl, b2⟩
  have B2 := Lib.hid (B1.out.trans (b2.mono B1.out.size))
  have M2 := Lib.hid (L2.out.below b2 (by omega))
  clear b2 L1 L2 g0 g1 B1 HB0 CK1 CK2
  have c0 := M2.out.cell 0
  have c1 := M2.out.cell 1
  have f0 := M2.out.frozen 0
  have f1 := M2.out.frozen 1
  simp at c0 c1
  have K3 := Lib.hid ((M2.out.set 0 (.slice none 0 0)).set 1 (.slice none 0 0))
  have B3 := Lib.hid ((B2.out.setCell (p := ⟨w.heap.size + 1 + 1, 0, none⟩) (by simp; omega) (.slice none 0 0)).setCell (p := ⟨w.heap.size + 1 + 1, 1, none⟩) (by simp; omega) (.slice none 0 0))
  go_wp2
  refine bodyPost_ret (results_cell_row rfl _ _ (w.heap.size + 1 + 1) 24 #[.slice none 0 0, .slice none 0 0] (0, 0) _ rfl K3.out Try.underlying24 rfl (by kernel_rfl)) rfl ?_
  exact ⟨_, rfl, TabR.nil, B3.out⟩

theorem tjoin_any (a b c d : List ByteArray) (v u v' u' : Value) (w : World) (hv : Lst stc w v a) (hu : Lst stc w u b) (hv' : Lst stc w v' c) (hu' : Lst stc w u' d)
    (hz : ∀ x ∈ a, x.size ≤ maxLen) (hz' : ∀ x ∈ b, x.size ≤ maxLen) (hz2 : ∀ x ∈ c, x.size ≤ maxLen) (hz3 : ∀ x ∈ d, x.size ≤ maxLen) :
    Calls Try.prog 28 #[.agg #[v, u], .agg #[v', u']] w fun e w' => ∃ V, e = .returned V ∧ TabR w.heap.size w' V ((joinR a b c d).map (·.1)) ((joinR a b c d).map (·.2)) ∧ Below w.heap.size w w' := by
  by_cases hc1 : checkF a b = 0
  · by_cases hc2 : checkF c d = 0
    · rw [show joinR a b c d = joinL c d a b from if_pos ⟨hc1, hc2⟩]
      exact tjn_main a b c d v u v' u' w hv hu hv' hu' hz hz' hz2 hz3 hc1 hc2
    · rw [show joinR a b c d = [] from if_neg (fun h => hc2 h.2)]
      exact tjn_b a b c d v u v' u' w hv hu hv' hu' hz hz' hz2 hz3 hc1 hc2
  · rw [show joinR a b c d = [] from if_neg (fun h => hc1 h.1)]
    exact tjn_a a b c d v u v' u' w hv hu hv' hu' hz hz' hc1
end Go.Proofs.Ytadodccciejghaa
