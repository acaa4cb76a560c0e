/- Where names go. -/
import Derived.Test.YtadodccciejghaaTAhead
import Derived.Test.YtadodccciejghaaTOf
import Derived.Test.YtadodccciejghaaTwo
import Derived.Maps.AppendAt
namespace Go.Proofs.Ytadodccciejghaa
open Go.RowKit Go.Maps
attribute [local go_sem] Oper.semAt_some
set_option maxRecDepth 100000
set_option maxHeartbeats 2000000

def mapE (a b l : List ByteArray) : Int := if checkF a b = 0 then (match mapL a b l with | some _ => 0 | none => 12) else checkF a b
def mapR (a b l : List ByteArray) : List ByteArray := if checkF a b = 0 then (mapL a b l).getD [] else []
theorem own_below {P : Program} {W W' : World} {k : TypeId} {el : Value → Option (DataW Unit × List MemPlace)} {b n : Nat} {D : DataW Unit} (h : W.ownsMap P k el b n D) (hb : Below W.heap.size W W') : W'.ownsMap P k el b n D :=
  h.kept (below_grown hb) (by simp)
theorem mapL_no (a b l m : List ByteArray) (k : Nat) (x : ByteArray) (h : mapL a b l = (mapL a b (l.drop k)).map (m ++ ·)) (hx : l[k]? = some x) (hg : goL a b x = none) : mapL a b l = none := by
  obtain ⟨h1, rfl⟩ := List.getElem?_eq_some_iff.1 hx
  rw [h, List.drop_eq_getElem_cons h1, mapL, hg]
  rfl
theorem mapL_yes (a b l m : List ByteArray) (k : Nat) (x y : ByteArray) (h : mapL a b l = (mapL a b (l.drop k)).map (m ++ ·)) (hx : l[k]? = some x) (hg : goL a b x = some y) : mapL a b l = (mapL a b (l.drop (k + 1))).map ((m ++ [y]) ++ ·) := by
  obtain ⟨h1, rfl⟩ := List.getElem?_eq_some_iff.1 hx
  rw [h, List.drop_eq_getElem_cons h1, mapL, hg]
  simp only [Option.map_map]
  congr 1
  funext z
  simp
theorem mapL_end (a b l m : List ByteArray) (k : Nat) (h : mapL a b l = (mapL a b (l.drop k)).map (m ++ ·)) (hk : l.length ≤ k) : mapL a b l = some m := by
  rw [h, List.drop_of_length_le hk]
  simp [mapL]

theorem tmap_any (a b l : List ByteArray) (v u t : Value) (w : World) (hv : Lst stc w v a) (hu : Lst stc w u b) (ht : Lst stc w t l) (hz : ∀ x ∈ a, x.size ≤ maxLen) (hz' : ∀ x ∈ b, x.size ≤ maxLen) (hzl : ∀ x ∈ l, x.size ≤ maxLen) (hl : l.length ≤ 100000) :
    Calls Try.prog 30 #[.agg #[v, u], t] w fun e w' => ∃ V, e = .returned (.tuple #[V, .int .i64 (mapE a b l)]) ∧ w'.ownsRow w.heap.size 9 1 V (mapR a b l).length ((mapR a b l).flatMap stc) ∧ Below w.heap.size w w' := by
  obtain ⟨i0, hi, hz0, hz1, hz2⟩ := info_parts info9
  have HB := Lib.hid ((Below.refl w.heap.size w).alloc (Nat.le_refl _) (.cells #[v, u] 24))
  have HV := Lib.hid (hv.below HB.out)
  have HU := Lib.hid (hu.below HB.out)
  have HT := Lib.hid (ht.below HB.out)
  have HCK := Lib.hid (tcheck_any a b v u _ (hv.below HB.out) (hu.below HB.out) hz hz')
  have HZ := Lib.hid hz
  have HZL := Lib.hid hzl
  obtain ⟨va, vc, rfl⟩ := hv.slice
  obtain ⟨ua, uc, rfl⟩ := hu.slice
  obtain ⟨ta, tc, rfl⟩ := ht.slice
  have HK0 := Lib.hid (Blk.new w #[.slice va a.length vc, .slice ua b.length uc] 24)
  clear hv hu ht hz hz' hzl
  have hsz : (w.alloc (.cells #[.slice va a.length vc, .slice ua b.length uc] 24)).heap.size = w.heap.size + 1 := by simp
  have HSZ := Lib.hid hsz
  clear hsz
  by_cases h0 : checkF a b = 0
  · have hok := (check_ok a b).1 h0
    have hal : a.length ≤ 100000 := by have := hok.1; omega
    have HAB := Lib.hid hok.2.1
    have HON := Lib.hid hok.2.2.2.2.1
    have HE := Lib.hid (show mapE a b l = (match mapL a b l with | some _ => 0 | none => 12) from by unfold mapE; rw [if_pos h0])
    have HR := Lib.hid (show mapR a b l = (mapL a b l).getD [] from by unfold mapR; rw [if_pos h0])
    rw [h0] at HCK
    clear hok h0
    have hmf : ∀ (fn : Fn) (first cap : Array Value) (w : World), (Instr.makeFunc fn first cap).run Try.prog w = .ok (.func fn first cap) w := fun _ _ _ _ => rfl
    go_enter Try.func30, Try.ntmps30
    go_wp2_with fail
    refine HCK.out.mono ?_
    rintro e w1 ⟨rfl, b1⟩
    have B1 := Lib.hid (HB.out.trans (b1.mono HB.out.size))
    have V1 := Lib.hid (HV.out.below b1)
    have U1 := Lib.hid (HU.out.below b1)
    have T1 := Lib.hid (HT.out.below b1)
    have k1 := HK0.out.below b1 (by rw [HSZ.out]; omega)
    have hs1 : w.heap.size + 1 ≤ w1.heap.size := by have := b1.size; rw [HSZ.out] at this; exact this
    have c0 := k1.cell 0
    simp at c0
    have K1 := Lib.hid k1
    clear b1 k1
    go_wp2_with fail
    refine (side_any a _ _ hal HZ.out V1.out).mono ?_
    rintro e w2 ⟨bm, rfl, _, _, hown, b2⟩
    have B2 := Lib.hid (B1.out.trans (b2.mono B1.out.size))
    have U2 := Lib.hid (U1.out.below b2)
    have T2 := Lib.hid (T1.out.below b2)
    have hs2 : w.heap.size + 1 ≤ w2.heap.size := Nat.le_trans hs1 b2.size
    have K2 := Lib.hid (K1.out.below b2 (by omega))
    have HO := Lib.hid hown
    clear b2 hown c0
    generalize twB a a.length = tw at *
    go_wp2
    go_loopw [7, 24] (fun x i wr => ∃ (k : Nat) (m : List ByteArray), k ≤ l.length ∧ i = .int .i64 (k : Int) ∧ wr.ownsRow w2.heap.size 9 1 x m.length (m.flatMap stc) ∧ m.length = k ∧ Hid (mapL a b l = (mapL a b (l.drop k)).map (m ++ ·)) ∧ Below w2.heap.size w2 wr) (fun _ i _ => l.length - (intOf i).toNat)
    case atStart => exact ⟨0, [], by omega, rfl, World.ownsRow_nil _ _ _ _, rfl, Lib.hid (by simp), Below.refl _ _⟩
    case round =>
      obtain ⟨k, m, hk, rfl, hrow, hm, hrun, hB⟩ := hrel
      have KB := K2.out.below hB (by omega)
      have c1 := KB.cell 1
      simp at c1
      have TB := Lib.hid (T2.out.below hB)
      have UB := Lib.hid (U2.out.below hB)
      have OB := Lib.hid (own_below HO.out hB)
      have BB := Lib.hid hB
      have hsB := hB.size
      clear hB KB
      by_cases hlt : k < l.length
      · have hlt' : (k : Int) < (l.length : Int) := by omega
        obtain ⟨g, o, cc, x, hx, hv, hg, hc⟩ := TB.out.at_ stc_len hlt
        injection hv with e1 e2 e3
        subst e1 e3
        clear e2
        have d0 : wr.cell? ⟨g, o + k, none⟩ = some (.string x) := by have := hc 0 (by omega); simpa [stc] using this
        have hxz := HZL.out x (List.mem_of_getElem? hx)
        have HX := Lib.hid hx
        have HAC := Lib.hid (across_any a b _ x bm tw wr HON.out HAB.out hxz OB.out UB.out)
        clear hc hx
        obtain ⟨q, hq⟩ : ∃ q, goL a b x = q := ⟨_, rfl⟩
        rw [goF_res, hq] at HAC
        have HQ := Lib.hid hq
        clear hq
        cases q with
        | none =>
          change Hid (Calls _ _ _ _ fun e w' => e = .returned (.tuple #[.string ⟨#[]⟩, .bool false]) ∧ _) at HAC
          have HN := Lib.hid (mapL_no a b l m k x hrun.out HX.out HQ.out)
          rw [HN.out] at HE HR
          clear hrun
          go_wp2_with fail
          refine HAC.out.mono ?_
          rintro e w3 ⟨rfl, b3⟩
          have B3 := Lib.hid ((B2.out.trans (BB.out.mono B2.out.size)).trans (b3.mono (by have := B2.out.size; omega)))
          clear b3
          go_wp2
          go_ret2
          exact ⟨.slice none 0 0, by rw [HE.out]; rfl, by rw [HR.out]; exact World.ownsRow_nil _ _ _ _, B3.out⟩
        | some y =>
          change Hid (Calls _ _ _ _ fun e w' => e = .returned (.tuple #[.string y, .bool true]) ∧ _) at HAC
          have HN := Lib.hid (mapL_yes a b l m k x y hrun.out HX.out HQ.out)
          clear hrun
          go_wp2_with fail
          refine HAC.out.mono ?_
          rintro e w3 ⟨rfl, b3⟩
          have R3 := row_below hrow b3
          have BB3 := Lib.hid (BB.out.trans (b3.mono hsB))
          have hs3 : w2.heap.size ≤ w3.heap.size := BB3.out.size
          clear b3 hrow
          go_wp2_with (at_builtin; go_loud (refine wpList_append_own _ rfl _ _ 22 rfl w2.heap.size 9 i0 (.string ⟨#[]⟩) 1 16 Try.underlying22 hi hz0 hz1 hz2 rfl (by decide) _ m.length _ rfl (R3.alloc _) ⟨w3.heap.size, 0, none⟩ 1 1 [.string y] rfl rfl (cell_one_new _ _ _) (by simp [Value.oneCell']) (by unfold maxLen; omega) (by omega) (by simp; omega) ?_; intro v4 w4 r4 g4 _))
          have r5 : w4.ownsRow w2.heap.size 9 1 v4 (m ++ [y]).length ((m ++ [y]).flatMap stc) := by
            rw [List.length_append, List.flatMap_append]
            exact r4
          have B5 := ((BB3.out.alloc hs3 _).grown g4 (by simp; omega) (fun j e => (R3.lt j e).1))
          refine ⟨⟨k + 1, m ++ [y], by omega, by go_num, r5, by simp [hm], HN, B5⟩, ?_⟩
          simp [intOf]; omega
      · have hge : (l.length : Int) ≤ (k : Int) := by omega
        have HN := Lib.hid (mapL_end a b l m k hrun.out (by omega))
        rw [HN.out] at HE HR
        have R3 := Lib.hid (row_mono hrow (show w.heap.size ≤ w2.heap.size by omega))
        have B3 := Lib.hid (B2.out.trans (BB.out.mono B2.out.size))
        clear hrun hrow
        go_wp2
        go_ret2
        exact ⟨u7, by rw [HE.out]; rfl, by rw [HR.out]; exact R3.out, B3.out⟩
  · have HE := Lib.hid (show mapE a b l = checkF a b from by unfold mapE; rw [if_neg h0])
    have HR := Lib.hid (show mapR a b l = [] from by unfold mapR; rw [if_neg h0])
    obtain ⟨q, hq⟩ : ∃ q, checkF a b = q := ⟨_, rfl⟩
    rw [hq] at HCK h0 HE
    have hne : (q != 0) = true := by rw [bne_iff_ne]; exact h0
    clear h0 hq
    go_enter Try.func30, Try.ntmps30
    go_wp2_with fail
    refine HCK.out.mono ?_
    rintro e w1 ⟨rfl, b1⟩
    have B1 := Lib.hid (HB.out.trans (b1.mono HB.out.size))
    clear b1
    go_wp2
    go_ret2
    exact ⟨.slice none 0 0, by rw [HE.out]; rfl, by rw [HR.out]; exact World.ownsRow_nil _ _ _ _, B1.out⟩
end Go.Proofs.Ytadodccciejghaa
