/- The document's reader of BENCH tells what the program's tells. -/
import Derived.Test.YtfljnhmpelpdaaaRefB
import Derived.Test.YtfljnhmpelpdaaaTops
import Derived.Test.YtfljnhmpelpdaaaTi
namespace Go.Proofs.Ytfljnhmpelpdaaa
open Go.RowKit

theorem atB_get (s : ByteArray) (a : Nat) (h : a < s.size) : atB s a = (s[a].toNat : Int) := by
  unfold atB
  have : s.data.toList[a]? = some s[a] := by
    rw [List.getElem?_eq_getElem (by simpa using h)]
    rfl
  rw [this]
  rfl
theorem atB_of (s : ByteArray) (a : Nat) (h : a < s.size) : UInt8.ofNat (atB s a).toNat = s[a] := by
  rw [atB_get s a h]
  simp
theorem eq35 (c : UInt8) : ((c.toNat : Int) == 35) = (c == 35) := by
  rw [Bool.eq_iff_iff, beq_iff_eq, beq_iff_eq, ← UInt8.toNat_inj]
  have : (35 : UInt8).toNat = 35 := rfl
  omega
theorem eq10 (c : UInt8) : ((c.toNat : Int) == 10) = (c == 10) := by
  rw [Bool.eq_iff_iff, beq_iff_eq, beq_iff_eq, ← UInt8.toNat_inj]
  have : (10 : UInt8).toNat = 10 := rfl
  omega
theorem kBl_is (c : UInt8) : kBl c = (kb c || ((c.toNat : Int) == 10)) := by
  unfold kBl kb
  rw [isOf_mem, isOf_mem, eq10, Bool.eq_iff_iff]
  simp [or_assoc]
theorem kBl_35 (c : UInt8) (h : ((c.toNat : Int) == 35) = true) : kBl c = false := by
  rw [eq35, beq_iff_eq] at h
  subst h
  unfold kBl
  rw [isOf_mem]
  rfl
theorem wN_is (c : UInt8) : wN c = (decide ((32 : Int) < (c.toNat : Int)) && (decide ((c.toNat : Int) < 127) && !isOf ⟨#[61, 40, 41, 44, 35]⟩ c)) := by
  unfold wN kM isIn
  rw [isOf_mem, isOf_mem, isOf_mem, Bool.eq_iff_iff]
  simp
  constructor <;> intro h <;> simp_all <;> omega

def Out3R (w : World) (r : List Tk ⊕ Nat) (e : Ending) (w' : World) : Prop :=
  match r with
  | .inl l => ∃ v, e = .returned (.tuple #[v, .int .i64 0, .int .i64 0]) ∧ w'.ownsRow w.heap.size 51 3 v l.length (cs l) ∧ Below w.heap.size w w'
  | .inr a => e = .returned (.tuple #[.slice none 0 0, .int .i64 (a : Int), .int .i64 2]) ∧ Below w.heap.size w w'

set_option maxRecDepth 100000 in
set_option maxHeartbeats 600000 in
theorem refBench_any (s : ByteArray) (w : World) (hs : s.size ≤ 100000) : Calls Try.prog 9 #[.string s] w (Out3R w (toksN s)) := by
  obtain ⟨i0, hi, hz0, hz1, hz2⟩ := info_parts info51
  unfold toksN
  generalize hT : runAll (stepN s) s.size s.size [] 0 = T
  have HT := Lib.hid hT
  clear hT
  have hss : (s.size : Int) ≤ 100000 := by omega
  go_enter Try.func9, Try.ntmps9
  go_wp2
  go_loopw [5, 6] (fun v i wr => ∃ (a f : Nat) (l : List Tk), i = .int .i64 (a : Int) ∧ a ≤ s.size ∧ s.size ≤ a + f ∧ l.length ≤ a ∧ wr.ownsRow w.heap.size 51 3 v l.length (cs l) ∧ Below w.heap.size w wr ∧ Hid (runAll (stepN s) s.size f l a = T)) (fun _ i _ => s.size - (intOf i).toNat)
  case atStart => exact ⟨0, s.size, [], rfl, by omega, by omega, by simp, World.ownsRow_nil _ _ _ _, Below.refl _ _, HT⟩
  case round =>
    obtain ⟨a, f, l, rfl, ha, haf, hla, hrow, hB, hrun⟩ := hrel
    by_cases hlt : a < s.size
    · have hlt' : (a : Int) < (s.size : Int) := by omega
      have hix := atB_run s a hlt _ (atB_get s a hlt)
      have hof := atB_of s a hlt
      have hag := atB_get s a hlt
      obtain ⟨f, rfl⟩ : ∃ f', f = f' + 1 := ⟨f - 1, by omega⟩
      have hrun2 := hrun.out
      rw [runAll, if_pos hlt] at hrun2
      have hgo := fun l' b h => stepN_go s a l l' b hlt h
      generalize hcc : s[a] = c at hix hof hag
      have HCC := Lib.hid hcc
      have HR := Lib.hid hrow
      have HB := Lib.hid hB
      have hBs := hB.size
      clear hcc hrow hB hrun
      have hst : stepN s a l = if kBl c then some (l, a + 1) else if (c.toNat : Int) = 35 then some (l, upP s a ⟨#[10]⟩) else if kM c then some (l ++ [⟨1, s.extract a (a + 1), a⟩], a + 1)
          else if wN c then some (l ++ [⟨0, s.extract a (skip wN s a), a⟩], skip wN s a) else none := by unfold stepN; rw [hof, hag]
      clear hof hag
      cases h35 : ((c.toNat : Int) == 35)
      · have n35 : ¬ (c.toNat : Int) = 35 := by simpa using h35
        cases hbl : kBl c
        · rw [hbl] at hst
          simp only [Bool.false_eq_true, if_false, if_neg n35] at hst
          have hk := kBl_is c
          rw [hbl] at hk
          obtain ⟨hk1, hk2⟩ := Bool.or_eq_false_iff.1 hk.symm
          have HK1 := Lib.hid hk1
          clear hk hk1 hbl n35
          cases hm : kM c
          · rw [hm] at hst
            simp only [Bool.false_eq_true, if_false] at hst
            have HST := Lib.hid hst
            have HRUN := Lib.hid hrun2
            have HGO := Lib.hid hgo
            have HM := Lib.hid hm
            clear hrun2 hgo hst hm
            go_wp2_with fail
            refine (blank_any c _).mono ?_
            rw [HK1.out]
            rintro e w' ⟨rfl, rfl⟩
            go_wp2_with fail
            refine (in_any ⟨#[61, 40, 41, 44]⟩ c _ (by decide)).mono ?_
            rw [show isOf ⟨#[61, 40, 41, 44]⟩ c = false from HM.out]
            rintro e w' ⟨rfl, rfl⟩
            go_wp2
            go_loopw [8] (fun j w2 => ∃ b : Nat, a ≤ b ∧ b ≤ s.size ∧ j = .int .i64 (b : Int) ∧ w2 = wr ∧ Hid (∀ j, (h : j < s.size) → a ≤ j → j < b → wN s[j] = true)) (fun j _ => s.size - (intOf j).toNat)
            case atStart => exact ⟨a, Nat.le_refl _, ha, rfl, rfl, Lib.hid fun j _ h1 h2 => absurd h1 (by omega)⟩
            case round =>
              obtain ⟨b, hab, hb, rfl, rfl, hall⟩ := hrel
              by_cases hgo1 : ∃ h : b < s.size, wN s[b] = true
              · obtain ⟨hb2, hw⟩ := hgo1
                have hn : ∀ j, (h : j < s.size) → a ≤ j → j < b + 1 → wN s[j] = true := by
                  intro j h h1 h2
                  by_cases hj : j < b
                  · exact hall.out j h h1 hj
                  · have : j = b := by omega
                    subst this
                    exact hw
                have HN := Lib.hid hn
                have hixb := atB_run s b hb2 _ (atB_get s b hb2)
                have hb2' : (b : Int) < (s.size : Int) := by omega
                rw [wN_is] at hw
                generalize s[b] = d at hixb hw
                simp only [Bool.and_eq_true, decide_eq_true_eq, Bool.not_eq_true'] at hw
                obtain ⟨h32, h127, hin⟩ := hw
                have HIN := Lib.hid hin
                clear hn hin hall
                go_wp2_with fail
                refine (in_any ⟨#[61, 40, 41, 44, 35]⟩ d _ (by decide)).mono ?_
                rw [HIN.out]
                rintro e w' ⟨rfl, rfl⟩
                go_wp2
                refine ⟨⟨b + 1, by omega, by omega, by go_num, by first | rfl | trivial, HN⟩, ?_⟩
                simp [intOf]; omega
              · have hno : ∀ h : b < s.size, wN s[b] = false := fun h => by cases hw : wN s[b] with | false => rfl | true => exact absurd ⟨h, hw⟩ hgo1
                have hsk : skip wN s a = b := skip_is wN s a b hab hb hall.out hno
                have hways : s.size ≤ b ∨ (∃ h : b < s.size, ¬ (32 : Int) < (s[b].toNat : Int)) ∨ (∃ h : b < s.size, (32 : Int) < (s[b].toNat : Int) ∧ ¬ (s[b].toNat : Int) < 127) ∨ (∃ h : b < s.size, (32 : Int) < (s[b].toNat : Int) ∧ (s[b].toNat : Int) < 127 ∧ isOf ⟨#[61, 40, 41, 44, 35]⟩ s[b] = true) := by
                  by_cases h1 : b < s.size
                  · have h2 := hno h1
                    rw [wN_is] at h2
                    by_cases h3 : (32 : Int) < (s[b].toNat : Int)
                    · by_cases h4 : (s[b].toNat : Int) < 127
                      · rw [decide_eq_true h3, decide_eq_true h4] at h2
                        exact .inr (.inr (.inr ⟨h1, h3, h4, by simpa using h2⟩))
                      · exact .inr (.inr (.inl ⟨h1, h3, h4⟩))
                    · exact .inr (.inl ⟨h1, h3⟩)
                  · exact .inl (by omega)
                have hst := HST.out
                rw [hsk] at hst
                have hrun2 := HRUN.out
                by_cases hbe : b = a
                · subst hbe
                  have hwc : wN c = false := by rw [← HCC.out]; exact hno hlt
                  rw [hwc] at hst
                  simp only [Bool.false_eq_true, if_false] at hst
                  rw [hst] at hrun2
                  have HTT := Lib.hid hrun2
                  clear hrun2 hst hsk hno hgo1 hall hwc
                  rcases hways with h1 | ⟨hb2, h32⟩ | ⟨hb2, h32, h127⟩ | ⟨hb2, h32, h127, hin⟩
                  · exfalso
                    omega
                  · rw [HCC.out] at h32
                    have h32' : decide ((32 : Int) < (c.toNat : Int)) = false := decide_eq_false h32
                    go_wp2
                    go_ret3
                    rw [← HTT.out]
                    exact ⟨rfl, HB.out⟩
                  · rw [HCC.out] at h32 h127
                    have h127' : decide ((c.toNat : Int) < (127 : Int)) = false := decide_eq_false h127
                    go_wp2
                    go_ret3
                    rw [← HTT.out]
                    exact ⟨rfl, HB.out⟩
                  · rw [HCC.out] at h32 h127 hin
                    have HIN := Lib.hid hin
                    clear hin
                    go_wp2_with fail
                    refine (in_any ⟨#[61, 40, 41, 44, 35]⟩ c _ (by decide)).mono ?_
                    rw [HIN.out]
                    rintro e w' ⟨rfl, rfl⟩
                    go_wp2
                    go_ret3
                    rw [← HTT.out]
                    exact ⟨rfl, HB.out⟩
                · have hwc : wN c = true := by rw [← HCC.out]; exact hall.out a hlt (Nat.le_refl _) (by omega)
                  rw [hwc] at hst
                  simp only [if_true] at hst
                  rw [hst] at hrun2
                  have HRUN := Lib.hid hrun2
                  have hne : ((b : Int) == (a : Int)) = false := by rw [beq_eq_false_iff_ne]; omega
                  have hsl := slice_eq s a b hab hb
                  have hai : (a : Int) ≤ 100000 := by omega
                  have hlt2 : a < b := by omega
                  have hbi : (b : Int) ≤ (s.size : Int) := by omega
                  have habi : (a : Int) ≤ (b : Int) := by omega
                  clear hrun2 hst hsk hno hgo1 hall hwc hbe
                  rcases hways with h1 | ⟨hb2, h32⟩ | ⟨hb2, h32, h127⟩ | ⟨hb2, h32, h127, hin⟩
                  · have hge : (s.size : Int) ≤ (b : Int) := by omega
                    go_wp2_with (at_builtin; refine wpList_append_own _ rfl _ _ 27 rfl w.heap.size 51 i0 (.agg #[.int .i64 0, .string ⟨#[]⟩, .int .i64 0]) 3 32 Try.underlying27 hi hz0 hz1 hz2 rfl (by decide) _ _ _ rfl (HR.out.alloc _) ⟨wr.heap.size, 0, none⟩ 1 1 [.int .i64 0, .string (s.extract a b), .int .i64 (a : Int)] rfl rfl (cell_three_new _ _ _ _ _) (fun x hx => by simp at hx; rcases hx with rfl | rfl | rfl <;> rfl) (by unfold maxLen; omega) (by omega) (by simp; omega) ?_; intro v' w1 hown' hgrow _)
                    refine ⟨⟨b, f, l ++ [⟨0, s.extract a b, a⟩], rfl, hb, by omega, by simp; omega, ?_, Below.grown (HB.out.alloc hBs _) hgrow (by simp; omega) (fun j hj => (HR.out.lt j hj).1), HRUN⟩, ?_⟩
                    · rw [cs_append, List.length_append]
                      exact hown'
                    · simp [intOf]; omega
                  · have hixb := atB_run s b hb2 _ (atB_get s b hb2)
                    generalize (s[b].toNat : Int) = z at hixb h32
                    have h32' : decide ((32 : Int) < z) = false := decide_eq_false h32
                    have hb2' : (b : Int) < (s.size : Int) := by omega
                    go_wp2_with (at_builtin; refine wpList_append_own _ rfl _ _ 27 rfl w.heap.size 51 i0 (.agg #[.int .i64 0, .string ⟨#[]⟩, .int .i64 0]) 3 32 Try.underlying27 hi hz0 hz1 hz2 rfl (by decide) _ _ _ rfl (HR.out.alloc _) ⟨wr.heap.size, 0, none⟩ 1 1 [.int .i64 0, .string (s.extract a b), .int .i64 (a : Int)] rfl rfl (cell_three_new _ _ _ _ _) (fun x hx => by simp at hx; rcases hx with rfl | rfl | rfl <;> rfl) (by unfold maxLen; omega) (by omega) (by simp; omega) ?_; intro v' w1 hown' hgrow _)
                    refine ⟨⟨b, f, l ++ [⟨0, s.extract a b, a⟩], rfl, hb, by omega, by simp; omega, ?_, Below.grown (HB.out.alloc hBs _) hgrow (by simp; omega) (fun j hj => (HR.out.lt j hj).1), HRUN⟩, ?_⟩
                    · rw [cs_append, List.length_append]
                      exact hown'
                    · simp [intOf]; omega
                  · have hixb := atB_run s b hb2 _ (atB_get s b hb2)
                    generalize (s[b].toNat : Int) = z at hixb h32 h127
                    have h127' : decide (z < (127 : Int)) = false := decide_eq_false h127
                    have hb2' : (b : Int) < (s.size : Int) := by omega
                    go_wp2_with (at_builtin; refine wpList_append_own _ rfl _ _ 27 rfl w.heap.size 51 i0 (.agg #[.int .i64 0, .string ⟨#[]⟩, .int .i64 0]) 3 32 Try.underlying27 hi hz0 hz1 hz2 rfl (by decide) _ _ _ rfl (HR.out.alloc _) ⟨wr.heap.size, 0, none⟩ 1 1 [.int .i64 0, .string (s.extract a b), .int .i64 (a : Int)] rfl rfl (cell_three_new _ _ _ _ _) (fun x hx => by simp at hx; rcases hx with rfl | rfl | rfl <;> rfl) (by unfold maxLen; omega) (by omega) (by simp; omega) ?_; intro v' w1 hown' hgrow _)
                    refine ⟨⟨b, f, l ++ [⟨0, s.extract a b, a⟩], rfl, hb, by omega, by simp; omega, ?_, Below.grown (HB.out.alloc hBs _) hgrow (by simp; omega) (fun j hj => (HR.out.lt j hj).1), HRUN⟩, ?_⟩
                    · rw [cs_append, List.length_append]
                      exact hown'
                    · simp [intOf]; omega
                  · have hixb := atB_run s b hb2 _ (atB_get s b hb2)
                    generalize s[b] = d at hixb h32 h127 hin
                    have hb2' : (b : Int) < (s.size : Int) := by omega
                    have HIN := Lib.hid hin
                    clear hin
                    go_wp2_with fail
                    refine (in_any ⟨#[61, 40, 41, 44, 35]⟩ d _ (by decide)).mono ?_
                    rw [HIN.out]
                    rintro e w' ⟨rfl, rfl⟩
                    go_wp2_with (at_builtin; refine wpList_append_own _ rfl _ _ 27 rfl w.heap.size 51 i0 (.agg #[.int .i64 0, .string ⟨#[]⟩, .int .i64 0]) 3 32 Try.underlying27 hi hz0 hz1 hz2 rfl (by decide) _ _ _ rfl (HR.out.alloc _) ⟨wr.heap.size, 0, none⟩ 1 1 [.int .i64 0, .string (s.extract a b), .int .i64 (a : Int)] rfl rfl (cell_three_new _ _ _ _ _) (fun x hx => by simp at hx; rcases hx with rfl | rfl | rfl <;> rfl) (by unfold maxLen; omega) (by omega) (by simp; omega) ?_; intro v' w1 hown' hgrow _)
                    refine ⟨⟨b, f, l ++ [⟨0, s.extract a b, a⟩], rfl, hb, by omega, by simp; omega, ?_, Below.grown (HB.out.alloc hBs _) hgrow (by simp; omega) (fun j hj => (HR.out.lt j hj).1), HRUN⟩, ?_⟩
                    · rw [cs_append, List.length_append]
                      exact hown'
                    · simp [intOf]; omega
          · rw [hm] at hst
            simp only [if_true] at hst
            rw [hst] at hrun2
            obtain ⟨g1, g2, g3⟩ := hgo _ _ hst
            have HRUN := Lib.hid hrun2
            have HM := Lib.hid hm
            have hsl := slice_one s a hlt
            clear hrun2 hgo hst hm
            go_wp2_with fail
            refine (blank_any c _).mono ?_
            rw [HK1.out]
            rintro e w' ⟨rfl, rfl⟩
            go_wp2_with fail
            refine (in_any ⟨#[61, 40, 41, 44]⟩ c _ (by decide)).mono ?_
            rw [show isOf ⟨#[61, 40, 41, 44]⟩ c = true from HM.out]
            rintro e w' ⟨rfl, rfl⟩
            have hai : (a : Int) ≤ 100000 := by omega
            go_wp2_with (at_builtin; refine wpList_append_own _ rfl _ _ 27 rfl w.heap.size 51 i0 (.agg #[.int .i64 0, .string ⟨#[]⟩, .int .i64 0]) 3 32 Try.underlying27 hi hz0 hz1 hz2 rfl (by decide) _ _ _ rfl (HR.out.alloc _) ⟨wr.heap.size, 0, none⟩ 1 1 [.int .i64 1, .string (s.extract a (a + 1)), .int .i64 (a : Int)] rfl rfl (cell_three_new _ _ _ _ _) (fun x hx => by simp at hx; rcases hx with rfl | rfl | rfl <;> rfl) (by unfold maxLen; omega) (by omega) (by simp; omega) ?_; intro v' w1 hown' hgrow _)
            refine ⟨⟨a + 1, f, l ++ [⟨1, s.extract a (a + 1), a⟩], by go_num, g2, by omega, by simp; omega, ?_, Below.grown (HB.out.alloc hBs _) hgrow (by simp; omega) (fun j hj => (HR.out.lt j hj).1), HRUN⟩, ?_⟩
            · rw [cs_append, List.length_append]
              exact hown'
            · simp [intOf]; omega
        · rw [hbl] at hst
          simp only [if_true] at hst
          rw [hst] at hrun2
          obtain ⟨g1, g2, g3⟩ := hgo _ _ hst
          have HRUN := Lib.hid hrun2
          have hk := kBl_is c
          rw [hbl] at hk
          clear hrun2 hgo hst hbl n35
          cases hk1 : kb c
          · have hk2 : ((c.toNat : Int) == 10) = true := by rw [hk1] at hk; simpa using hk.symm
            have HK1 := Lib.hid hk1
            clear hk hk1
            go_wp2_with fail
            refine (blank_any c _).mono ?_
            rw [HK1.out]
            rintro e w' ⟨rfl, rfl⟩
            go_wp2
            refine ⟨⟨a + 1, f, l, by go_num, g2, by omega, by omega, HR.out, HB.out, HRUN⟩, ?_⟩
            simp [intOf]; omega
          · have HK1 := Lib.hid hk1
            clear hk hk1
            go_wp2_with fail
            refine (blank_any c _).mono ?_
            rw [HK1.out]
            rintro e w' ⟨rfl, rfl⟩
            go_wp2
            refine ⟨⟨a + 1, f, l, by go_num, g2, by omega, by omega, HR.out, HB.out, HRUN⟩, ?_⟩
            simp [intOf]; omega
      · have p35 : (c.toNat : Int) = 35 := by simpa using h35
        rw [kBl_35 c h35] at hst
        simp only [Bool.false_eq_true, if_false, if_pos p35] at hst
        rw [hst] at hrun2
        obtain ⟨g1, g2, g3⟩ := hgo _ _ hst
        have HRUN := Lib.hid hrun2
        clear hrun2 hgo hst p35
        go_wp2_with fail
        refine (line_any s a _ hs ha).mono ?_
        rintro e w' ⟨rfl, rfl⟩
        go_wp2
        refine ⟨⟨upP s a ⟨#[10]⟩, f, l, rfl, g2, by omega, by omega, HR.out, HB.out, HRUN⟩, ?_⟩
        simp [intOf]; omega
    · have hge : (s.size : Int) ≤ (a : Int) := by omega
      obtain ⟨so, sc, rfl⟩ := row_slice hrow
      have hrun2 : runAll (stepN s) s.size f l a = .inl l := by
        cases f with
        | zero => rfl
        | succ f => rw [runAll, if_neg hlt]
      have HTT := Lib.hid (hrun.out.symm.trans hrun2)
      have HR2 := Lib.hid hrow
      have HBB := Lib.hid hB
      clear hrun hrun2 hrow hB
      go_wp2
      go_ret3
      rw [HTT.out]
      exact ⟨_, rfl, HR2.out, HBB.out⟩
end Go.Proofs.Ytfljnhmpelpdaaa
