/- What the formats take as it is. -/
import Derived.Test.YtfljnhmpelpdaaaDoorNames
import Derived.Maps.OwnSet
import Derived.Maps.Views
import Derived.Maps.OwnOps
namespace Go.Proofs.YtfljnhmpelpdaaaDoor
open Go.RowKit Go.Maps

theorem law9 : Keyed Tryd.prog 9 := string_keyed Tryd.underlying9
theorem zero53 (w : World) : (zeroValue 53).run Tryd.prog w = .ok (.agg #[]) w := by kernel_rfl

def keptW : List (List UInt8) := [[109, 111, 100, 117, 108, 101], [101, 110, 100, 109, 111, 100, 117, 108, 101], [105, 110, 112, 117, 116], [111, 117, 116, 112, 117, 116], [119, 105, 114, 101], [97, 115, 115, 105, 103, 110], [98, 117, 102], [110, 111, 116], [97, 110, 100], [110, 97, 110, 100], [111, 114], [110, 111, 114], [120, 111, 114], [120, 110, 111, 114], [100, 102, 102, 48], [100, 102, 102, 49], [100, 102, 102, 120]]
def keptN (n : Nat) : DataW Unit := setOf (.agg []) ((keptW.take n).map Lit.string)
theorem keptN_succ (n : Nat) (s : List UInt8) (h : keptW[n]? = some s) : (keptN n).put (.string s) (.agg []) = keptN (n + 1) := by
  unfold keptN
  rw [List.take_add_one, h]
  simp [setOf_snoc]
theorem key9 (s : ByteArray) (h : s.size ≤ maxLen) : keyOf Tryd.prog 9 (.string s) = some (.string s.data.toList) := Go.WideMaps.keyOf_string_mk Tryd.underlying9 h

set_option maxRecDepth 100000 in
set_option maxHeartbeats 1000000 in
theorem kept_any (w : World) : Calls Tryd.prog 64 #[] w fun e w' => e = .returned (.map (some w.heap.size)) ∧ w'.ownsMap Tryd.prog 9 unitElem w.heap.size 17 (keptN 17) ∧ Below w.heap.size w w' := by
  have hmm := @run_makeMap Tryd.prog
  go_enter Tryd.func64, Tryd.ntmps64
  go_wp2_with fail
  obtain ⟨w0, hr0, hown0, hg0⟩ := World.ownsMap.update (R := unitElem) (D := (.map [])) (n := 0) (World.ownsMap_made _ _ _ _) law9 Tryd.underlying51 (by decide) (key9 ⟨#[109, 111, 100, 117, 108, 101]⟩ (by decide)) unitElem_mk
  rw [hr0]
  clear hr0
  have hown0 : w0.ownsMap Tryd.prog 9 unitElem w.heap.size 1 ((keptN 0).put (.string [109, 111, 100, 117, 108, 101]) (.agg [])) := hown0
  rw [keptN_succ 0 [109, 111, 100, 117, 108, 101] rfl] at hown0
  have B0 := Lib.hid (((Below.refl w.heap.size w).alloc (Nat.le_refl _) _).grown hg0 (by simp) (fun j hj => by cases hj; exact Nat.le_refl _))
  clear hg0
  go_wp2_with fail
  obtain ⟨w1, hr1, hown1, hg1⟩ := World.ownsMap.update (R := unitElem) (D := (keptN 1)) (n := 1) hown0 law9 Tryd.underlying51 (by decide) (key9 ⟨#[101, 110, 100, 109, 111, 100, 117, 108, 101]⟩ (by decide)) unitElem_mk
  rw [hr1]
  clear hr1
  have hown1 : w1.ownsMap Tryd.prog 9 unitElem w.heap.size 2 ((keptN 1).put (.string [101, 110, 100, 109, 111, 100, 117, 108, 101]) (.agg [])) := hown1
  rw [keptN_succ 1 [101, 110, 100, 109, 111, 100, 117, 108, 101] rfl] at hown1
  have B1 := Lib.hid (B0.out.grown hg1 (B0.out.size) (fun j hj => by cases hj; exact Nat.le_refl _))
  clear hg1 hown0 B0
  go_wp2_with fail
  obtain ⟨w2, hr2, hown2, hg2⟩ := World.ownsMap.update (R := unitElem) (D := (keptN 2)) (n := 2) hown1 law9 Tryd.underlying51 (by decide) (key9 ⟨#[105, 110, 112, 117, 116]⟩ (by decide)) unitElem_mk
  rw [hr2]
  clear hr2
  have hown2 : w2.ownsMap Tryd.prog 9 unitElem w.heap.size 3 ((keptN 2).put (.string [105, 110, 112, 117, 116]) (.agg [])) := hown2
  rw [keptN_succ 2 [105, 110, 112, 117, 116] rfl] at hown2
  have B2 := Lib.hid (B1.out.grown hg2 (B1.out.size) (fun j hj => by cases hj; exact Nat.le_refl _))
  clear hg2 hown1 B1
  go_wp2_with fail
  obtain ⟨w3, hr3, hown3, hg3⟩ := World.ownsMap.update (R := unitElem) (D := (keptN 3)) (n := 3) hown2 law9 Tryd.underlying51 (by decide) (key9 ⟨#[111, 117, 116, 112, 117, 116]⟩ (by decide)) unitElem_mk
  rw [hr3]
  clear hr3
  have hown3 : w3.ownsMap Tryd.prog 9 unitElem w.heap.size 4 ((keptN 3).put (.string [111, 117, 116, 112, 117, 116]) (.agg [])) := hown3
  rw [keptN_succ 3 [111, 117, 116, 112, 117, 116] rfl] at hown3
  have B3 := Lib.hid (B2.out.grown hg3 (B2.out.size) (fun j hj => by cases hj; exact Nat.le_refl _))
  clear hg3 hown2 B2
  go_wp2_with fail
  obtain ⟨w4, hr4, hown4, hg4⟩ := World.ownsMap.update (R := unitElem) (D := (keptN 4)) (n := 4) hown3 law9 Tryd.underlying51 (by decide) (key9 ⟨#[119, 105, 114, 101]⟩ (by decide)) unitElem_mk
  rw [hr4]
  clear hr4
  have hown4 : w4.ownsMap Tryd.prog 9 unitElem w.heap.size 5 ((keptN 4).put (.string [119, 105, 114, 101]) (.agg [])) := hown4
  rw [keptN_succ 4 [119, 105, 114, 101] rfl] at hown4
  have B4 := Lib.hid (B3.out.grown hg4 (B3.out.size) (fun j hj => by cases hj; exact Nat.le_refl _))
  clear hg4 hown3 B3
  go_wp2_with fail
  obtain ⟨w5, hr5, hown5, hg5⟩ := World.ownsMap.update (R := unitElem) (D := (keptN 5)) (n := 5) hown4 law9 Tryd.underlying51 (by decide) (key9 ⟨#[97, 115, 115, 105, 103, 110]⟩ (by decide)) unitElem_mk
  rw [hr5]
  clear hr5
  have hown5 : w5.ownsMap Tryd.prog 9 unitElem w.heap.size 6 ((keptN 5).put (.string [97, 115, 115, 105, 103, 110]) (.agg [])) := hown5
  rw [keptN_succ 5 [97, 115, 115, 105, 103, 110] rfl] at hown5
  have B5 := Lib.hid (B4.out.grown hg5 (B4.out.size) (fun j hj => by cases hj; exact Nat.le_refl _))
  clear hg5 hown4 B4
  go_wp2_with fail
  obtain ⟨w6, hr6, hown6, hg6⟩ := World.ownsMap.update (R := unitElem) (D := (keptN 6)) (n := 6) hown5 law9 Tryd.underlying51 (by decide) (key9 ⟨#[98, 117, 102]⟩ (by decide)) unitElem_mk
  rw [hr6]
  clear hr6
  have hown6 : w6.ownsMap Tryd.prog 9 unitElem w.heap.size 7 ((keptN 6).put (.string [98, 117, 102]) (.agg [])) := hown6
  rw [keptN_succ 6 [98, 117, 102] rfl] at hown6
  have B6 := Lib.hid (B5.out.grown hg6 (B5.out.size) (fun j hj => by cases hj; exact Nat.le_refl _))
  clear hg6 hown5 B5
  go_wp2_with fail
  obtain ⟨w7, hr7, hown7, hg7⟩ := World.ownsMap.update (R := unitElem) (D := (keptN 7)) (n := 7) hown6 law9 Tryd.underlying51 (by decide) (key9 ⟨#[110, 111, 116]⟩ (by decide)) unitElem_mk
  rw [hr7]
  clear hr7
  have hown7 : w7.ownsMap Tryd.prog 9 unitElem w.heap.size 8 ((keptN 7).put (.string [110, 111, 116]) (.agg [])) := hown7
  rw [keptN_succ 7 [110, 111, 116] rfl] at hown7
  have B7 := Lib.hid (B6.out.grown hg7 (B6.out.size) (fun j hj => by cases hj; exact Nat.le_refl _))
  clear hg7 hown6 B6
  go_wp2_with fail
  obtain ⟨w8, hr8, hown8, hg8⟩ := World.ownsMap.update (R := unitElem) (D := (keptN 8)) (n := 8) hown7 law9 Tryd.underlying51 (by decide) (key9 ⟨#[97, 110, 100]⟩ (by decide)) unitElem_mk
  rw [hr8]
  clear hr8
  have hown8 : w8.ownsMap Tryd.prog 9 unitElem w.heap.size 9 ((keptN 8).put (.string [97, 110, 100]) (.agg [])) := hown8
  rw [keptN_succ 8 [97, 110, 100] rfl] at hown8
  have B8 := Lib.hid (B7.out.grown hg8 (B7.out.size) (fun j hj => by cases hj; exact Nat.le_refl _))
  clear hg8 hown7 B7
  go_wp2_with fail
  obtain ⟨w9, hr9, hown9, hg9⟩ := World.ownsMap.update (R := unitElem) (D := (keptN 9)) (n := 9) hown8 law9 Tryd.underlying51 (by decide) (key9 ⟨#[110, 97, 110, 100]⟩ (by decide)) unitElem_mk
  rw [hr9]
  clear hr9
  have hown9 : w9.ownsMap Tryd.prog 9 unitElem w.heap.size 10 ((keptN 9).put (.string [110, 97, 110, 100]) (.agg [])) := hown9
  rw [keptN_succ 9 [110, 97, 110, 100] rfl] at hown9
  have B9 := Lib.hid (B8.out.grown hg9 (B8.out.size) (fun j hj => by cases hj; exact Nat.le_refl _))
  clear hg9 hown8 B8
  go_wp2_with fail
  obtain ⟨w10, hr10, hown10, hg10⟩ := World.ownsMap.update (R := unitElem) (D := (keptN 10)) (n := 10) hown9 law9 Tryd.underlying51 (by decide) (key9 ⟨#[111, 114]⟩ (by decide)) unitElem_mk
  rw [hr10]
  clear hr10
  have hown10 : w10.ownsMap Tryd.prog 9 unitElem w.heap.size 11 ((keptN 10).put (.string [111, 114]) (.agg [])) := hown10
  rw [keptN_succ 10 [111, 114] rfl] at hown10
  have B10 := Lib.hid (B9.out.grown hg10 (B9.out.size) (fun j hj => by cases hj; exact Nat.le_refl _))
  clear hg10 hown9 B9
  go_wp2_with fail
  obtain ⟨w11, hr11, hown11, hg11⟩ := World.ownsMap.update (R := unitElem) (D := (keptN 11)) (n := 11) hown10 law9 Tryd.underlying51 (by decide) (key9 ⟨#[110, 111, 114]⟩ (by decide)) unitElem_mk
  rw [hr11]
  clear hr11
  have hown11 : w11.ownsMap Tryd.prog 9 unitElem w.heap.size 12 ((keptN 11).put (.string [110, 111, 114]) (.agg [])) := hown11
  rw [keptN_succ 11 [110, 111, 114] rfl] at hown11
  have B11 := Lib.hid (B10.out.grown hg11 (B10.out.size) (fun j hj => by cases hj; exact Nat.le_refl _))
  clear hg11 hown10 B10
  go_wp2_with fail
  obtain ⟨w12, hr12, hown12, hg12⟩ := World.ownsMap.update (R := unitElem) (D := (keptN 12)) (n := 12) hown11 law9 Tryd.underlying51 (by decide) (key9 ⟨#[120, 111, 114]⟩ (by decide)) unitElem_mk
  rw [hr12]
  clear hr12
  have hown12 : w12.ownsMap Tryd.prog 9 unitElem w.heap.size 13 ((keptN 12).put (.string [120, 111, 114]) (.agg [])) := hown12
  rw [keptN_succ 12 [120, 111, 114] rfl] at hown12
  have B12 := Lib.hid (B11.out.grown hg12 (B11.out.size) (fun j hj => by cases hj; exact Nat.le_refl _))
  clear hg12 hown11 B11
  go_wp2_with fail
  obtain ⟨w13, hr13, hown13, hg13⟩ := World.ownsMap.update (R := unitElem) (D := (keptN 13)) (n := 13) hown12 law9 Tryd.underlying51 (by decide) (key9 ⟨#[120, 110, 111, 114]⟩ (by decide)) unitElem_mk
  rw [hr13]
  clear hr13
  have hown13 : w13.ownsMap Tryd.prog 9 unitElem w.heap.size 14 ((keptN 13).put (.string [120, 110, 111, 114]) (.agg [])) := hown13
  rw [keptN_succ 13 [120, 110, 111, 114] rfl] at hown13
  have B13 := Lib.hid (B12.out.grown hg13 (B12.out.size) (fun j hj => by cases hj; exact Nat.le_refl _))
  clear hg13 hown12 B12
  go_wp2_with fail
  obtain ⟨w14, hr14, hown14, hg14⟩ := World.ownsMap.update (R := unitElem) (D := (keptN 14)) (n := 14) hown13 law9 Tryd.underlying51 (by decide) (key9 ⟨#[100, 102, 102, 48]⟩ (by decide)) unitElem_mk
  rw [hr14]
  clear hr14
  have hown14 : w14.ownsMap Tryd.prog 9 unitElem w.heap.size 15 ((keptN 14).put (.string [100, 102, 102, 48]) (.agg [])) := hown14
  rw [keptN_succ 14 [100, 102, 102, 48] rfl] at hown14
  have B14 := Lib.hid (B13.out.grown hg14 (B13.out.size) (fun j hj => by cases hj; exact Nat.le_refl _))
  clear hg14 hown13 B13
  go_wp2_with fail
  obtain ⟨w15, hr15, hown15, hg15⟩ := World.ownsMap.update (R := unitElem) (D := (keptN 15)) (n := 15) hown14 law9 Tryd.underlying51 (by decide) (key9 ⟨#[100, 102, 102, 49]⟩ (by decide)) unitElem_mk
  rw [hr15]
  clear hr15
  have hown15 : w15.ownsMap Tryd.prog 9 unitElem w.heap.size 16 ((keptN 15).put (.string [100, 102, 102, 49]) (.agg [])) := hown15
  rw [keptN_succ 15 [100, 102, 102, 49] rfl] at hown15
  have B15 := Lib.hid (B14.out.grown hg15 (B14.out.size) (fun j hj => by cases hj; exact Nat.le_refl _))
  clear hg15 hown14 B14
  go_wp2_with fail
  obtain ⟨w16, hr16, hown16, hg16⟩ := World.ownsMap.update (R := unitElem) (D := (keptN 16)) (n := 16) hown15 law9 Tryd.underlying51 (by decide) (key9 ⟨#[100, 102, 102, 120]⟩ (by decide)) unitElem_mk
  rw [hr16]
  clear hr16
  have hown16 : w16.ownsMap Tryd.prog 9 unitElem w.heap.size 17 ((keptN 16).put (.string [100, 102, 102, 120]) (.agg [])) := hown16
  rw [keptN_succ 16 [100, 102, 102, 120] rfl] at hown16
  have B16 := Lib.hid (B15.out.grown hg16 (B15.out.size) (fun j hj => by cases hj; exact Nat.le_refl _))
  clear hg16 hown15 B15
  go_wp2_with fail
  go_ret
  exact ⟨rfl, hown16, B16.out⟩
end Go.Proofs.YtfljnhmpelpdaaaDoor
