/- Digits two by two: the bytes. -/
import Derived.Test.YtfljnhmpelpdaaaDoorSpell
import Derived.Laws.BytesArg
import Derived.IntWalk
namespace Go.Proofs.YtfljnhmpelpdaaaDoor
open Go.RowKit

theorem below_drewN {B : Nat} {w W : World} (h : Below B w W) (n : Nat) : Below B w (W.drewN n) := ⟨h.os, h.tape, h.output, h.size, h.block⟩
def ix (c : UInt8) : Int := Lib.indexByte hexD.data.toList c
theorem ix_bd (c : UInt8) : -1 ≤ ix c ∧ ix c ≤ 15 := by
  have := all256 (fun c => decide (-1 ≤ ix c ∧ ix c ≤ 15)) (by decide +kernel) c
  simpa using this
def unhexF : List UInt8 → Option (List UInt8)
  | [] => some []
  | [_] => none
  | a :: b :: l => if ix a < 0 ∨ ix b < 0 then none else (unhexF l).map (UInt8.ofNat (16 * (ix a).toNat + (ix b).toNat) :: ·)
theorem unhexF_odd : ∀ l : List UInt8, l.length % 2 ≠ 0 → unhexF l = none
  | [], h => absurd rfl h
  | [_], _ => rfl
  | a :: b :: l, h => by
    rw [unhexF, unhexF_odd l (by simp at h ⊢; omega)]
    split <;> rfl
theorem or16 (p q : Nat) (hp : p < 16) (hq : q < 16) : bits BinOp.or IntKind.i64 ((p : Int) * 16) (q : Int) = (p : Int) * 16 + q := by
  have := (by decide +kernel : ∀ i j : Fin 16, bits BinOp.or IntKind.i64 ((i.val : Int) * 16) (j.val : Int) = (i.val : Int) * 16 + j.val) ⟨p, hp⟩ ⟨q, hq⟩
  exact this
theorem ixb_any (c : UInt8) (w : World) : Calls Tryd.prog 69 #[.string ⟨#[48, 49, 50, 51, 52, 53, 54, 55, 56, 57, 97, 98, 99, 100, 101, 102]⟩, .int .u8 (c.toNat : Int)] w fun e w' => e = .returned (.int .i64 (ix c)) ∧ w' = w := by
  have h := Tryd.strings_IndexByte hexD (c.toNat : Int) w
  rw [show ((c.toNat : Int)).toNat.toUInt8 = c from by simp] at h
  exact h
theorem drop2 (l : List UInt8) (j : Nat) (a b : UInt8) (ha : l[j]? = some a) (hb : l[j + 1]? = some b) : l.drop j = a :: b :: l.drop (j + 2) := by
  obtain ⟨h1, rfl⟩ := List.getElem?_eq_some_iff.1 ha
  obtain ⟨h2, rfl⟩ := List.getElem?_eq_some_iff.1 hb
  rw [List.drop_eq_getElem_cons h1, List.drop_eq_getElem_cons h2]
theorem get_list (s : ByteArray) (k : Nat) (h : k < s.size) : s.data.toList[k]? = some s[k] := by
  rw [List.getElem?_eq_getElem (by simpa using h)]; rfl

def Unhexed (w : World) (r : Option (List UInt8)) (e : Ending) (w' : World) : Prop :=
  e = .returned (match r with | some t => .tuple #[.string ⟨t.toArray⟩, .bool true] | none => .tuple #[.string ⟨#[]⟩, .bool false]) ∧ Below w.heap.size w w'

set_option maxRecDepth 100000 in
set_option maxHeartbeats 1000000 in
theorem fromHex_any (s : ByteArray) (w : World) (hs : s.size ≤ 100000) : Calls Tryd.prog 54 #[.string s] w (Unhexed w (unhexF s.data.toList)) := by
  obtain ⟨i0, hi, hz0, hz1, hz2⟩ := info_parts info5
  by_cases hodd : s.size % 2 ≠ 0
  · rw [unhexF_odd s.data.toList (by simpa using hodd)]
    have ho : ((s.size : Int) % 2 != 0) = true := by rw [bne_iff_ne]; omega
    have ho' : ((s.size : Int) % 2 == 0) = false := by rw [beq_eq_false_iff_ne]; omega
    clear hodd
    go_enter Tryd.func54, Tryd.ntmps54
    go_wp2
    go_ret2
    exact ⟨rfl, Below.refl _ _⟩
  · have hev : s.size % 2 = 0 := by omega
    have ho : ((s.size : Int) % 2 != 0) = false := by
      rw [bne_eq_false_iff_eq]; omega
    have ho' : ((s.size : Int) % 2 == 0) = true := by rw [beq_iff_eq]; omega
    have HEV := Lib.hid hev
    obtain ⟨R, hR⟩ : ∃ R, unhexF s.data.toList = R := ⟨_, rfl⟩
    rw [hR]
    have HR0 := Lib.hid hR
    clear hodd hev hR
    go_enter Tryd.func54, Tryd.ntmps54
    go_wp2
    go_loopw [4, 5] (fun v i wr => ∃ (j : Nat) (T : List UInt8), 2 * j ≤ s.size ∧ i = .int .i64 ((2 * j : Nat) : Int) ∧ T.length = j ∧ wr.ownsRow w.heap.size 5 1 v j (T.flatMap byc) ∧ Below w.heap.size w wr ∧ Hid ((unhexF (s.data.toList.drop (2 * j))).map (T ++ ·) = R)) (fun _ i _ => s.size - (intOf i).toNat)
    case atStart => exact ⟨0, [], Nat.zero_le _, rfl, rfl, World.ownsRow_nil _ _ _ _, Below.refl _ _, Lib.hid (by rw [← HR0.out]; simp)⟩
    case round =>
      obtain ⟨j, T, hj, rfl, hT, hrow, hB, hrun⟩ := hrel
      have hev := HEV.out
      by_cases hlt : 2 * j < s.size
      · have h2 : 2 * j + 1 < s.size := by omega
        have hlt' : ((2 * j : Nat) : Int) < (s.size : Int) := by omega
        have hix1 := get_run s (2 * j) hlt
        have hix2 := get_run s (2 * j + 1) h2
        rw [show ((2 * j + 1 : Nat) : Int) = ((2 * j : Nat) : Int) + 1 from by omega] at hix2
        have hrun2 := hrun.out
        rw [drop2 _ _ _ _ (get_list s _ hlt) (get_list s _ h2), unhexF] at hrun2
        generalize s[2 * j] = a at hix1 hrun2
        generalize s[2 * j + 1] = b at hix2 hrun2
        obtain ⟨m, hm⟩ : ∃ m, 2 * j = m := ⟨_, rfl⟩
        rw [hm] at hix1 hix2 hlt' hlt h2 hrun2 ⊢
        have HM := Lib.hid hm
        have hja : (m : Int) ≤ 100000 := by omega
        have HT := Lib.hid hT
        have HB := Lib.hid hB
        have HR := Lib.hid hrow
        have hBs := hB.size
        have hjs : j ≤ 100000 := by omega
        have hpa := ix_bd a
        have hpb := ix_bd b
        have hq1 := ixb_any a
        have hq2 := ixb_any b
        generalize ix a = p at hpa hq1 hrun2
        generalize ix b = q at hpb hq2 hrun2
        have HQ1 := Lib.hid hq1
        have HQ2 := Lib.hid hq2
        have HRUN := Lib.hid hrun2
        have haddi : IntKind.i64.wrap ((m : Int) + 1) = (m : Int) + 1 := IntWalk.i64_in _ (by omega)
        have hadd0 : (0 : Int) ≤ (m : Int) + 1 := by omega
        have htn : ((m : Int) + 1).toNat = m + 1 := by omega
        clear hq1 hq2 hrun2 hm hT hB hrow hev hj hrun
        by_cases hp : p < 0
        · have hRn : R = none := by
            have := HRUN.out
            rw [if_pos (.inl hp)] at this
            exact this.symm
          subst hRn
          clear HRUN
          go_wp2_with fail
          go_quiet ((first | exact Calls.quiet_of_same (HQ1.out _) | exact Calls.quiet_of_same (HQ2.out _)))
          clear haddi htn
          go_wp2
          go_ret2
          exact ⟨rfl, below_drewN HB.out _⟩
        · by_cases hq : q < 0
          · have hRn : R = none := by
              have := HRUN.out
              rw [if_pos (.inr hq)] at this
              exact this.symm
            have hp' : decide (p < 0) = false := decide_eq_false hp
            subst hRn
            clear HRUN
            go_wp2_with fail
            go_quiet ((first | exact Calls.quiet_of_same (HQ1.out _) | exact Calls.quiet_of_same (HQ2.out _)))
            clear haddi htn
            go_wp2
            go_ret2
            exact ⟨rfl, below_drewN HB.out _⟩
          · have hrun3 := HRUN.out
            rw [if_neg (by omega)] at hrun3
            obtain ⟨pn, rfl⟩ := Int.eq_ofNat_of_zero_le (show 0 ≤ p by omega)
            obtain ⟨qn, rfl⟩ := Int.eq_ofNat_of_zero_le (show 0 ≤ q by omega)
            rw [Int.toNat_natCast, Int.toNat_natCast] at hrun3
            have hor := or16 pn qn (by omega) (by omega)
            have hval : ((UInt8.ofNat (16 * pn + qn)).toNat : Int) = (pn : Int) * 16 + qn := by
              have h1 : (UInt8.ofNat (16 * pn + qn)).toNat = (16 * pn + qn) % 256 := rfl
              rw [h1, Nat.mod_eq_of_lt (by omega)]
              omega
            rw [← hval] at hor
            generalize UInt8.ofNat (16 * pn + qn) = c at hrun3 hor hval
            have hcb : (c.toNat : Int) ≤ 255 := by have := c.toNat_lt; omega
            have HRUN3 := Lib.hid hrun3
            have hp' : decide ((pn : Int) < 0) = false := decide_eq_false hp
            have hq' : decide ((qn : Int) < 0) = false := decide_eq_false hq
            clear hrun3 HRUN hval
            go_wp2_with fail
            go_quiet ((first | exact Calls.quiet_of_same (HQ1.out _) | exact Calls.quiet_of_same (HQ2.out _)))
            clear haddi htn
            have HR2 : Hid ((wr.drewN nq).ownsRow w.heap.size 5 1 u4 j (T.flatMap byc)) := HR
            have HB2 := Lib.hid (below_drewN HB.out nq)
            have hBs2 : w.heap.size ≤ (wr.drewN nq).heap.size := hBs
            generalize wr.drewN nq = W at HR2 HB2 hBs2
            go_wp2_with (at_builtin; refine wpList_append_own _ rfl _ _ 77 rfl w.heap.size 5 i0 (.int .u8 0) 1 1 Tryd.underlying77 hi hz0 hz1 hz2 rfl (by decide) _ _ _ rfl (HR2.out.alloc _) ⟨W.heap.size, 0, none⟩ 1 1 [.int .u8 (c.toNat : Int)] rfl rfl (cell_one_new _ _ _) (by simp [Value.oneCell']) (by unfold maxLen; omega) (by omega) (by simp; omega) ?_; intro v' w1 hown' hgrow _)
            refine ⟨⟨j + 1, T ++ [c], by have := HM.out; omega, ?_, ?_, ?_, Below.grown (HB2.out.alloc hBs2 _) hgrow (by simp; omega) (fun x hx => (HR2.out.lt x hx).1), Lib.hid ?_⟩, ?_⟩
            · have := HM.out
              rw [← this]
              simp; omega
            · simp [HT.out]
            · rw [flat_append]
              exact hown'
            · have := HRUN3.out
              rw [← HM.out] at this
              rw [show 2 * (j + 1) = 2 * j + 2 from by omega, ← this, Option.map_map]
              congr 1
              funext x
              simp
            · simp [intOf]; omega
      · have hje : 2 * j = s.size := by omega
        have hge : (s.size : Int) ≤ ((2 * j : Nat) : Int) := by omega
        have hRT : R = some T := by
          rw [← hrun.out, hje, List.drop_of_length_le (by simp)]
          simp [unhexF]
        subst hRT
        have HB := Lib.hid hB
        have HT := Lib.hid hT
        have hempty : ByteArray.empty = ⟨#[]⟩ := rfl
        rcases Nat.eq_zero_or_pos j with h0 | h0
        · subst h0
          have hT0 : T = [] := List.eq_nil_of_length_eq_zero HT.out
          subst hT0
          rcases hrow.2 with ⟨rfl, _⟩ | ⟨g, cap, cur, rfl, _⟩
          · have hcv := run_convert_bytes_nil (P := Tryd.prog) (w := wr) 77 5 Tryd.underlying77 Tryd.underlying5 0 0 9 Tryd.underlying9
            rw [hempty] at hcv
            clear hrun hrow hB hje hT HT hempty
            go_wp2
            go_ret2
            exact ⟨rfl, HB.out⟩
          · have hcv := run_convert_bytes_back (P := Tryd.prog) wr 77 9 5 ⟨g, 0, none⟩ cap [] Tryd.underlying77 Tryd.underlying5 Tryd.underlying9 (fun j hj => absurd hj (by simp))
            simp only [List.length_nil] at hcv
            clear hrun hrow hB hje hT HT hempty
            go_wp2
            go_ret2
            exact ⟨rfl, HB.out⟩
        · obtain ⟨k, rfl⟩ : ∃ k, j = k + 1 := ⟨j - 1, by omega⟩
          obtain ⟨g, cap, rfl⟩ := ownsRow_succ hrow
          have hcv := run_convert_bytes_back (P := Tryd.prog) wr 77 9 5 ⟨g, 0, none⟩ cap T Tryd.underlying77 Tryd.underlying5 Tryd.underlying9 (fun j hj => by
            have := hrow.cells (g := g) rfl j (.int .u8 (T[j].toNat : Int)) (by
              have h1 := flat_at (ec := byc) byc_len T j T[j] (List.getElem?_eq_getElem hj) 0 (by omega)
              simpa [byc] using h1)
            exact this)
          rw [hT] at hcv
          clear hrun hrow hB hje hT HT hempty
          go_wp2
          go_ret2
          exact ⟨rfl, HB.out⟩
end Go.Proofs.YtfljnhmpelpdaaaDoor
