/- IdentFresh: a fresh name is none that is used. -/
import Derived.Test.YtfljnhmpelpdaaaDoorOnly
import Derived.Test.YtfljnhmpelpdaaaDoorLst2
import Derived.Laws.OwnMore
namespace Go.Proofs.YtfljnhmpelpdaaaDoor
open Go.RowKit

theorem info9 : (Tryd.prog.info? 9).map (fun i => (i.zero, i.size, i.bytes)) = some (some (.string ⟨#[]⟩), 1, 16) := by kernel_rfl
theorem usedB_no (used : List ByteArray) (s : ByteArray) (h : s ∉ used) : usedB used s = false := by
  cases hu : usedB used s
  · rfl
  · exact absurd ((usedB_iff used s).1 hu) h

set_option maxRecDepth 100000 in
set_option maxHeartbeats 1000000 in
theorem has_any (l : List ByteArray) (v : Value) (s : ByteArray) (w : World) (hl : l.length ≤ 100000) (ht : Lst stc w v l) :
    Calls Tryd.prog 21 #[v, .string s] w fun e w' => e = .returned (.bool (usedB l s)) ∧ w = w' := by
  have HT := Lib.hid ht
  obtain ⟨b, c, rfl⟩ := ht.slice
  clear ht
  obtain ⟨q, hq⟩ : ∃ q, usedB l s = q := ⟨_, rfl⟩
  rw [hq]
  have HQ := Lib.hid hq
  clear hq
  go_enter Tryd.func21, Tryd.ntmps21
  go_wp2
  go_loop [5] (fun i => ∃ k : Nat, k ≤ l.length ∧ i = .int .i64 (k : Int) ∧ Hid (∀ y ∈ l.take k, y ≠ s)) (fun i => l.length - (intOf i).toNat)
  case atStart => exact ⟨0, by omega, rfl, Lib.hid (by simp)⟩
  case round =>
    obtain ⟨k, hk, rfl, hall⟩ := hrel
    by_cases hlt : k < l.length
    · have hlt' : (k : Int) < (l.length : Int) := by omega
      obtain ⟨g, o, cc, x, hx, hv, hg, hc⟩ := HT.out.at_ stc_len hlt
      injection hv with hb _ hcc
      subst hb hcc
      have c0 := hc 0 (by omega)
      simp [stc] at c0
      by_cases he : x = s
      · have hqt : q = true := by rw [← HQ.out, usedB_iff, ← he]; exact List.mem_of_getElem? hx
        subst hqt
        have htl : (x.toList == s.toList) = true := by rw [he]; exact tl_self s
        clear hc hx he hall HQ
        go_wp2
        go_ret
        exact ⟨rfl, by first | rfl | trivial⟩
      · have htl : (x.toList == s.toList) = false := tl_ne x s he
        have hn : ∀ y ∈ l.take (k + 1), y ≠ s := by
          intro y hy
          rw [List.take_add_one, hx] at hy
          rcases List.mem_append.1 hy with hy | hy
          · exact hall.out y hy
          · simp at hy; rw [hy]; exact he
        have HN := Lib.hid hn
        clear hc hx he hall hn
        go_wp2
        refine ⟨⟨k + 1, by omega, by go_num, HN⟩, ?_⟩
        simp [intOf]; omega
    · have hge : (l.length : Int) ≤ (k : Int) := by omega
      have hqf : q = false := by
        rw [← HQ.out]
        refine usedB_no l s fun h => hall.out s ?_ rfl
        rw [List.take_of_length_le (by omega)]
        exact h
      subst hqf
      clear hall HQ
      go_wp2
      go_ret
      exact ⟨rfl, by first | rfl | trivial⟩

theorem num_size (stem : ByteArray) (k : Nat) (_ : 1 ≤ k) (h : k < 100) : stem.size < (numS stem k).size ∧ (numS stem k).size ≤ stem.size + 2 := by
  have h1 := dec_size k h
  have h2 := (by decide +kernel : ∀ i : Fin 100, 1 ≤ (dec i.val).size) ⟨k, h⟩
  simp only [] at h2
  unfold numS
  rw [ByteArray.size_append]
  omega
theorem num_front (stem : ByteArray) (k : Nat) : (numS stem k).extract 0 stem.size = stem := by
  apply bytes_inj
  unfold numS
  rw [ByteArray.data_extract, Array.toList_extract, List.extract_eq_take_drop, ByteArray.data_append, Array.toList_append]
  simp
theorem fresh_size (used : List ByteArray) (stem r : ByteArray) (hu : used.length ≤ 60) (h : IsFresh used stem r) : stem.size < r.size ∧ r.size ≤ stem.size + 2 ∧ r.extract 0 stem.size = stem ∧ r ∉ used := by
  obtain ⟨k, h1, h2, rfl, h3, _⟩ := h
  obtain ⟨h4, h5⟩ := num_size stem k h1 (by omega)
  exact ⟨h4, h5, num_front stem k, h3⟩
theorem stc_one (l : List ByteArray) : ∀ y ∈ l.flatMap stc, y.oneCell' = true := by
  intro y hy
  obtain ⟨x, _, hx⟩ := List.mem_flatMap.1 hy
  simp [stc] at hx
  subst hx
  rfl
theorem lst_row {W : World} {B n : Nat} {v : Value} {l : List ByteArray} (h : W.ownsRow B 9 1 v n (l.flatMap stc)) (hn : n = l.length) : Lst stc W v l := by
  subst hn
  exact Lst.of_row h

set_option maxRecDepth 100000 in
set_option maxHeartbeats 1000000 in
theorem freshLaw_big (used more : List ByteArray) (v u : Value) (stem : ByteArray) (w : World) (hv : Lst stc w v used) (hu : Lst stc w u more) (h : (30 : Int) < (used.length : Int) ∨ (30 : Int) < (more.length : Int) ∨ (120 : Int) < (stem.size : Int)) :
    Calls Tryd.prog 7 #[v, .string stem, u] w fun e w' => e = .returned (.bool true) ∧ Below w.heap.size w w' := by
  obtain ⟨b, c, rfl⟩ := hv.slice
  obtain ⟨b', c', rfl⟩ := hu.slice
  clear hv hu
  by_cases h1 : (30 : Int) < (used.length : Int)
  · go_enter Tryd.func7, Tryd.ntmps7
    go_wp2_with fail
    refine (works_any _).mono ?_
    rintro e w1 ⟨rfl, b1⟩
    go_wp2
    go_ret
    exact ⟨rfl, b1⟩
  · have h1' : decide ((30 : Int) < (used.length : Int)) = false := decide_eq_false h1
    by_cases h2 : (30 : Int) < (more.length : Int)
    · go_enter Tryd.func7, Tryd.ntmps7
      go_wp2_with fail
      refine (works_any _).mono ?_
      rintro e w1 ⟨rfl, b1⟩
      go_wp2
      go_ret
      exact ⟨rfl, b1⟩
    · have h2' : decide ((30 : Int) < (more.length : Int)) = false := decide_eq_false h2
      have h3 : (120 : Int) < (stem.size : Int) := by rcases h with h | h | h <;> first | exact absurd h h1 | exact absurd h h2 | exact h
      go_enter Tryd.func7, Tryd.ntmps7
      go_wp2_with fail
      refine (works_any _).mono ?_
      rintro e w1 ⟨rfl, b1⟩
      go_wp2
      go_ret
      exact ⟨rfl, b1⟩

set_option maxRecDepth 100000 in
set_option maxHeartbeats 2000000 in
theorem freshLaw_in (used more : List ByteArray) (v u : Value) (stem : ByteArray) (w : World) (hv : Lst stc w v used) (hu : Lst stc w u more) (nv : NilFine v) (nu : NilFine u) (zv : ∀ x ∈ used, x.size ≤ maxLen) (zu : ∀ x ∈ more, x.size ≤ maxLen)
    (h1 : ¬ (30 : Int) < (used.length : Int)) (h2 : ¬ (30 : Int) < (more.length : Int)) (h3 : ¬ (120 : Int) < (stem.size : Int)) :
    Calls Tryd.prog 7 #[v, .string stem, u] w fun e w' => e = .returned (.bool true) ∧ Below w.heap.size w w' := by
  obtain ⟨i0, hi, hz0, hz1, hz2⟩ := info_parts info9
  have h1' : decide ((30 : Int) < (used.length : Int)) = false := decide_eq_false h1
  have h2' : decide ((30 : Int) < (more.length : Int)) = false := decide_eq_false h2
  have h3' : decide ((120 : Int) < (stem.size : Int)) = false := decide_eq_false h3
  have V0 := Lib.hid hv
  have U0 := Lib.hid hu
  have NV := Lib.hid nv
  have NU := Lib.hid nu
  have ZV := Lib.hid zv
  have ZU := Lib.hid zu
  obtain ⟨b, c, rfl⟩ := hv.slice
  obtain ⟨b', c', rfl⟩ := hu.slice
  clear hv hu nv nu zv zu
  go_enter Tryd.func7, Tryd.ntmps7
  go_wp2_with fail
  refine (works_any _).mono ?_
  rintro e w1 ⟨rfl, b1⟩
  have B1 := Lib.hid b1
  have V1 := Lib.hid (V0.out.below b1)
  have U1 := Lib.hid (U0.out.below b1)
  clear b1
  go_wp2_with fail
  refine (fresh_any used _ stem _ (by omega) ZV.out (by omega) V1.out).mono ?_
  rintro e w2 ⟨n, rfl, fn, b2⟩
  obtain ⟨n1, n2, n3, n4⟩ := fresh_size used stem n (by omega) fn
  have N3 := Lib.hid n3
  have N4 := Lib.hid n4
  have B2 := Lib.hid (B1.out.trans (b2.mono B1.out.size))
  have V2 := Lib.hid (V1.out.below b2)
  have U2 := Lib.hid (U1.out.below b2)
  clear b2 fn n3 n4
  have R0w2 := Lib.hid (World.ownsRow_lit (base := w2.heap.size) (e := 9) (size := 1) w2 #[] 0 (Nat.le_refl _) (by decide) rfl)
  have D0w2 : Below w2.heap.size w2 (w2.alloc (.cells #[] 9)) := (Below.refl w2.heap.size w2).alloc (Nat.le_refl _) (.cells #[] 9)
  have DDw2 := Lib.hid D0w2
  have VAw2 := Lib.hid (V2.out.below D0w2)
  clear D0w2
  go_wp2_with (first | (at_builtin; refine wpList_append_lst (ec := stc) rfl _ _ 24 rfl w2.heap.size 9 i0 (.string ⟨#[]⟩) 1 16 Tryd.underlying24 hi hz0 hz1 hz2 rfl (by decide) _ 0 _ rfl R0w2.out _ used rfl VAw2.out NV.out stc_len (stc_one _) (by unfold maxLen; omega) (by omega) (by first | (simp; done) | (simp; omega) | omega) ?_; intro v3 w3 r3 g3; have s3 := g3.size) | (at_builtin; refine wpList_append_own _ rfl _ _ 24 rfl w2.heap.size 9 i0 (.string ⟨#[]⟩) 1 16 Tryd.underlying24 hi hz0 hz1 hz2 rfl (by decide) _ (0 + used.length) _ rfl (r3.alloc _) ⟨w3.heap.size, 0, none⟩ 1 1 [.string n] rfl rfl (cell_one_new _ _ _) (by simp [Value.oneCell']) (by unfold maxLen; omega) (by omega) (by simp at s3 ⊢; omega) ?_; intro v4 w4 r4 g4 _))
  have D3 : Below w2.heap.size w2 w3 := DDw2.out.grown g3 (by simp) (fun k e => by cases e; exact Nat.le_refl _)
  have D4 : Below w2.heap.size w2 w4 := (D3.alloc D3.size (.cells #[.string n] 9)).grown g4 (by have := D3.size; simp; omega) (fun k e => (r3.lt k e).1)
  have L4 : Lst stc w4 v4 (used ++ [n]) := lst_row (n := 0 + used.length + 1) (by rw [flat_append]; exact r4) (by simp)
  have V4 := Lib.hid (V2.out.below D4)
  have U4 := Lib.hid (U2.out.below D4)
  have B4 := Lib.hid (B2.out.trans (D4.mono B2.out.size))
  obtain ⟨p4, q4, rfl⟩ : ∃ p q, v4 = .slice p (used.length + 1) q := by have := L4.slice; simpa using this
  have T4 := Lib.hid L4
  clear D3 D4 L4 r3 g3 r4 g4 s3 VAw2 R0w2 DDw2 V2 U2
  go_wp2_with fail
  refine (fresh_any (used ++ [n]) _ stem _ (by simp; omega) (fun y hy => by
    rcases List.mem_append.1 hy with hy | hy
    · exact ZV.out y hy
    · rw [List.mem_singleton.1 hy]; unfold maxLen; omega) (by omega) T4.out).mono ?_
  rintro e w5 ⟨m, rfl, fm, b5⟩
  obtain ⟨m1, m2, _, m4⟩ := fresh_size (used ++ [n]) stem m (by simp; omega) fm
  have MN := Lib.hid (show m ≠ n from fun e => m4 (by rw [e]; simp))
  have B5 := Lib.hid (B4.out.trans (b5.mono B4.out.size))
  have V5 := Lib.hid (V4.out.below b5)
  have U5 := Lib.hid (U4.out.below b5)
  clear b5 fm m4 T4 V4 U4 m1 m2
  have R0w5 := Lib.hid (World.ownsRow_lit (base := w5.heap.size) (e := 9) (size := 1) w5 #[] 0 (Nat.le_refl _) (by decide) rfl)
  have D0w5 : Below w5.heap.size w5 (w5.alloc (.cells #[] 9)) := (Below.refl w5.heap.size w5).alloc (Nat.le_refl _) (.cells #[] 9)
  have DDw5 := Lib.hid D0w5
  have VAw5 := Lib.hid (V5.out.below D0w5)
  clear D0w5
  go_wp2_with (first | (at_builtin; refine wpList_append_lst (ec := stc) rfl _ _ 24 rfl w5.heap.size 9 i0 (.string ⟨#[]⟩) 1 16 Tryd.underlying24 hi hz0 hz1 hz2 rfl (by decide) _ 0 _ rfl R0w5.out _ used rfl VAw5.out NV.out stc_len (stc_one _) (by unfold maxLen; omega) (by omega) (by first | (simp; done) | (simp; omega) | omega) ?_; intro v6 w6 r6 g6; have Ew6 : Below w5.heap.size w5 w6 := DDw5.out.grown g6 (by simp) (fun k e => by cases e; exact Nat.le_refl _); have sw6 := Ew6.size; have UBw6 := Lib.hid (U5.out.below Ew6); clear Ew6) | (at_builtin; refine wpList_append_lst (ec := stc) rfl _ _ 24 rfl w5.heap.size 9 i0 (.string ⟨#[]⟩) 1 16 Tryd.underlying24 hi hz0 hz1 hz2 rfl (by decide) _ (0 + used.length) _ rfl r6 _ more rfl UBw6.out NU.out stc_len (stc_one _) (by unfold maxLen; omega) (by omega) (by first | (simp; done) | (simp; omega) | omega) ?_; intro v7 w7 r7 g7))
  have Dw6 : Below w5.heap.size w5 w6 := DDw5.out.grown g6 (by simp) (fun k e => by cases e; exact Nat.le_refl _)
  have Dw7 : Below w5.heap.size w5 w7 := Dw6.grown g7 Dw6.size (fun k e => (r6.lt k e).1)
  have Lw7 : Lst stc w7 v7 (used ++ more) := lst_row (n := 0 + used.length + more.length) (by rw [flat_append]; exact r7) (by simp)
  have V7 := Lib.hid (V5.out.below Dw7)
  have U7 := Lib.hid (U5.out.below Dw7)
  have B7 := Lib.hid (B5.out.trans (Dw7.mono B5.out.size))
  obtain ⟨pv7, qv7, rfl⟩ : ∃ p q, v7 = .slice p (used.length + more.length) q := by have := Lw7.slice; simpa using this
  have Tw7 := Lib.hid Lw7
  clear Dw6 Dw7 Lw7 r6 g6 r7 g7 sw6 VAw5 R0w5 DDw5 UBw6 V5 U5
  go_wp2_with fail
  refine (fresh_any (used ++ more) _ stem _ (by simp; omega) (fun y hy => by
    rcases List.mem_append.1 hy with hy | hy
    · exact ZV.out y hy
    · exact ZU.out y hy) (by omega) Tw7.out).mono ?_
  rintro e w8 ⟨k, rfl, fk, b8⟩
  obtain ⟨k1, k2, _, k4⟩ := fresh_size (used ++ more) stem k (by simp; omega) fk
  have KN := Lib.hid k4
  have B8 := Lib.hid (B7.out.trans (b8.mono B7.out.size))
  have V8 := Lib.hid (V7.out.below b8)
  have U8 := Lib.hid (U7.out.below b8)
  clear b8 fk k4 Tw7 V7 U7 k1 k2
  have R0w8 := Lib.hid (World.ownsRow_lit (base := w8.heap.size) (e := 9) (size := 1) w8 #[] 0 (Nat.le_refl _) (by decide) rfl)
  have D0w8 : Below w8.heap.size w8 (w8.alloc (.cells #[] 9)) := (Below.refl w8.heap.size w8).alloc (Nat.le_refl _) (.cells #[] 9)
  have DDw8 := Lib.hid D0w8
  have VAw8 := Lib.hid (V8.out.below D0w8)
  clear D0w8
  go_wp2_with (first | (at_builtin; refine wpList_append_lst (ec := stc) rfl _ _ 24 rfl w8.heap.size 9 i0 (.string ⟨#[]⟩) 1 16 Tryd.underlying24 hi hz0 hz1 hz2 rfl (by decide) _ 0 _ rfl R0w8.out _ used rfl VAw8.out NV.out stc_len (stc_one _) (by unfold maxLen; omega) (by omega) (by first | (simp; done) | (simp; omega) | omega) ?_; intro v9 w9 r9 g9; have Ew9 : Below w8.heap.size w8 w9 := DDw8.out.grown g9 (by simp) (fun k e => by cases e; exact Nat.le_refl _); have sw9 := Ew9.size; have UBw9 := Lib.hid (U8.out.below Ew9); clear Ew9) | (at_builtin; refine wpList_append_lst (ec := stc) rfl _ _ 24 rfl w8.heap.size 9 i0 (.string ⟨#[]⟩) 1 16 Tryd.underlying24 hi hz0 hz1 hz2 rfl (by decide) _ (0 + used.length) _ rfl r9 _ more rfl UBw9.out NU.out stc_len (stc_one _) (by unfold maxLen; omega) (by omega) (by first | (simp; done) | (simp; omega) | omega) ?_; intro v10 w10 r10 g10))
  have Dw9 : Below w8.heap.size w8 w9 := DDw8.out.grown g9 (by simp) (fun k e => by cases e; exact Nat.le_refl _)
  have Dw10 : Below w8.heap.size w8 w10 := Dw9.grown g10 Dw9.size (fun k e => (r9.lt k e).1)
  have Lw10 : Lst stc w10 v10 (used ++ more) := lst_row (n := 0 + used.length + more.length) (by rw [flat_append]; exact r10) (by simp)
  have V10 := Lib.hid (V8.out.below Dw10)
  have U10 := Lib.hid (U8.out.below Dw10)
  have B10 := Lib.hid (B8.out.trans (Dw10.mono B8.out.size))
  obtain ⟨pv10, qv10, rfl⟩ : ∃ p q, v10 = .slice p (used.length + more.length) q := by have := Lw10.slice; simpa using this
  have Tw10 := Lib.hid Lw10
  clear Dw9 Dw10 Lw10 r9 g9 r10 g10 sw9 VAw8 R0w8 DDw8 UBw9 V8 U8
  go_wp2_with fail
  refine (has_any used _ n _ (by omega) V10.out).mono ?_
  rw [usedB_no used n N4.out]
  rintro e w' ⟨rfl, rfl⟩
  go_wp2_with fail
  refine (has_any (used ++ more) _ k _ (by simp; omega) Tw10.out).mono ?_
  rw [usedB_no (used ++ more) k KN.out]
  rintro e w' ⟨rfl, rfl⟩
  have hmn : (m.toList == n.toList) = false := tl_ne m n MN.out
  have hmn2 : (m.toList != n.toList) = true := by rw [bne, hmn]; rfl
  have hsl : ∀ wx : World, (Instr.slice 9 (.string n) none (some (.int .i64 (stem.size : Int))) none).run Tryd.prog wx = .ok (.string stem) wx := fun wx => by
    have := run_slice_string_h (P := Tryd.prog) wx 9 n Tryd.underlying9 .i64 (stem.size : Int) (by omega) (by omega)
    rwa [Int.toNat_natCast, N3.out] at this
  have hss := tl_self stem
  have hni : (stem.size : Int) < (n.size : Int) := by omega
  go_wp2
  go_ret
  exact ⟨rfl, B10.out⟩

theorem law_fresh (used more : List ByteArray) (v u : Value) (stem : ByteArray) (w : World) (hv : Lst stc w v used) (hu : Lst stc w u more) (nv : NilFine v) (nu : NilFine u) (zv : ∀ x ∈ used, x.size ≤ maxLen) (zu : ∀ x ∈ more, x.size ≤ maxLen) :
    Calls Tryd.prog 7 #[v, .string stem, u] w fun e w' => e = .returned (.bool true) ∧ Below w.heap.size w w' := by
  by_cases h1 : (30 : Int) < (used.length : Int)
  · exact freshLaw_big used more v u stem w hv hu (.inl h1)
  · by_cases h2 : (30 : Int) < (more.length : Int)
    · exact freshLaw_big used more v u stem w hv hu (.inr (.inl h2))
    · by_cases h3 : (120 : Int) < (stem.size : Int)
      · exact freshLaw_big used more v u stem w hv hu (.inr (.inr h3))
      · exact freshLaw_in used more v u stem w hv hu nv nu zv zu h1 h2 h3
theorem str_of {H : Type} {enc : TypeId × Value → H} {W : World} (n : Nat) (xs : List Value) (y : DataW H × List MemPlace) (h : DataW.trod enc Tryd.prog W 0 (fun _ => true) true n 9 xs = some y) (_ : xs.length = 1) : ∃ x : ByteArray, xs = stc x ∧ x.size ≤ maxLen :=
  trod_string_is Tryd.underlying9 h
end Go.Proofs.YtfljnhmpelpdaaaDoor
