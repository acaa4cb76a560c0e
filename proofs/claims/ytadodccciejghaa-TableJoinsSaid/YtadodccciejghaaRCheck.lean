/- Which tables may be, as the document asks it. -/
import Derived.Test.YtadodccciejghaaOnce
import Derived.Test.YtadodccciejghaaAlike
namespace Go.Proofs.Ytadodccciejghaa
open Go.RowKit
set_option maxRecDepth 100000
set_option maxHeartbeats 1000000

theorem rck_a (a b : List ByteArray) (v u : Value) (w : World) (hv : Lst stc w v a) (hu : Lst stc w u b) (h1 : (200 : Int) < (a.length : Int)) :
    Calls Try.prog 16 #[.agg #[v, u]] w fun e w' => e = .returned (.int .i64 8) ∧ Below w.heap.size w w' := by
  have HB := Lib.hid ((Below.refl w.heap.size w).alloc (Nat.le_refl _) (.cells #[v, u] 29))
  have V1 := Lib.hid (hv.below HB.out)
  have U1 := Lib.hid (hu.below HB.out)
  obtain ⟨x, y, rfl⟩ := hv.slice
  obtain ⟨x', y', rfl⟩ := hu.slice
  clear hv hu
  go_enter Try.func16, Try.ntmps16
  go_wp2
  go_ret
  exact ⟨rfl, HB.out⟩
theorem rck_b (a b : List ByteArray) (v u : Value) (w : World) (hv : Lst stc w v a) (hu : Lst stc w u b) (h1 : ¬ (200 : Int) < (a.length : Int)) (h2 : (200 : Int) < (b.length : Int)) :
    Calls Try.prog 16 #[.agg #[v, u]] w fun e w' => e = .returned (.int .i64 8) ∧ Below w.heap.size w w' := by
  have HB := Lib.hid ((Below.refl w.heap.size w).alloc (Nat.le_refl _) (.cells #[v, u] 29))
  have V1 := Lib.hid (hv.below HB.out)
  have U1 := Lib.hid (hu.below HB.out)
  obtain ⟨x, y, rfl⟩ := hv.slice
  obtain ⟨x', y', rfl⟩ := hu.slice
  clear hv hu
  have h1' : decide ((200 : Int) < (a.length : Int)) = false := decide_eq_false h1
  go_enter Try.func16, Try.ntmps16
  go_wp2
  go_ret
  exact ⟨rfl, HB.out⟩
theorem rck_c (a b : List ByteArray) (v u : Value) (w : World) (hv : Lst stc w v a) (hu : Lst stc w u b) (h1 : ¬ (200 : Int) < (a.length : Int)) (h2 : ¬ (200 : Int) < (b.length : Int)) (h3 : a.length ≠ b.length) :
    Calls Try.prog 16 #[.agg #[v, u]] w fun e w' => e = .returned (.int .i64 1) ∧ Below w.heap.size w w' := by
  have HB := Lib.hid ((Below.refl w.heap.size w).alloc (Nat.le_refl _) (.cells #[v, u] 29))
  have V1 := Lib.hid (hv.below HB.out)
  have U1 := Lib.hid (hu.below HB.out)
  obtain ⟨x, y, rfl⟩ := hv.slice
  obtain ⟨x', y', rfl⟩ := hu.slice
  clear hv hu
  have h1' : decide ((200 : Int) < (a.length : Int)) = false := decide_eq_false h1
  have h2' : decide ((200 : Int) < (b.length : Int)) = false := decide_eq_false h2
  have hne : ((a.length : Int) != (b.length : Int)) = true := by rw [bne_iff_ne]; omega
  clear h3
  go_enter Try.func16, Try.ntmps16
  go_wp2
  go_ret
  exact ⟨rfl, HB.out⟩
theorem rck_d (a b : List ByteArray) (v u : Value) (w : World) (hv : Lst stc w v a) (hu : Lst stc w u b) (h1 : ¬ (200 : Int) < (a.length : Int)) (h2 : ¬ (200 : Int) < (b.length : Int)) (h3 : a.length = b.length) (hz : ∀ x ∈ a, x.size ≤ 100000) (hz' : ∀ x ∈ b, x.size ≤ 100000) (hna : a.all nameB = false) :
    Calls Try.prog 16 #[.agg #[v, u]] w fun e w' => e = .returned (.int .i64 4) ∧ Below w.heap.size w w' := by
  have HB := Lib.hid ((Below.refl w.heap.size w).alloc (Nat.le_refl _) (.cells #[v, u] 29))
  have V1 := Lib.hid (hv.below HB.out)
  have U1 := Lib.hid (hu.below HB.out)
  obtain ⟨x, y, rfl⟩ := hv.slice
  obtain ⟨x', y', rfl⟩ := hu.slice
  clear hv hu
  have h1' : decide ((200 : Int) < (a.length : Int)) = false := decide_eq_false h1
  have h2' : decide ((200 : Int) < (b.length : Int)) = false := decide_eq_false h2
  have hne : ((a.length : Int) != (b.length : Int)) = false := by rw [bne_eq_false_iff_eq]; omega
  have A100 := Lib.hid (show a.length ≤ 100000 by omega)
  have B100 := Lib.hid (show b.length ≤ 100000 by omega)
  have HZ := Lib.hid hz
  have HZ' := Lib.hid hz'
  clear hz hz'
  have HNA := Lib.hid hna
  clear hna
  clear h3
  go_enter Try.func16, Try.ntmps16
  go_wp2_with fail
  refine (rnames_any a _ _ A100.out HZ.out V1.out).mono ?_
  rw [HNA.out]
  rintro e w' ⟨rfl, rfl⟩
  go_wp2
  go_ret
  exact ⟨rfl, HB.out⟩
theorem rck_e (a b : List ByteArray) (v u : Value) (w : World) (hv : Lst stc w v a) (hu : Lst stc w u b) (h1 : ¬ (200 : Int) < (a.length : Int)) (h2 : ¬ (200 : Int) < (b.length : Int)) (h3 : a.length = b.length) (hz : ∀ x ∈ a, x.size ≤ 100000) (hz' : ∀ x ∈ b, x.size ≤ 100000) (hna : a.all nameB = true) (hnb : b.all nameB = false) :
    Calls Try.prog 16 #[.agg #[v, u]] w fun e w' => e = .returned (.int .i64 4) ∧ Below w.heap.size w w' := by
  have HB := Lib.hid ((Below.refl w.heap.size w).alloc (Nat.le_refl _) (.cells #[v, u] 29))
  have V1 := Lib.hid (hv.below HB.out)
  have U1 := Lib.hid (hu.below HB.out)
  obtain ⟨x, y, rfl⟩ := hv.slice
  obtain ⟨x', y', rfl⟩ := hu.slice
  clear hv hu
  have h1' : decide ((200 : Int) < (a.length : Int)) = false := decide_eq_false h1
  have h2' : decide ((200 : Int) < (b.length : Int)) = false := decide_eq_false h2
  have hne : ((a.length : Int) != (b.length : Int)) = false := by rw [bne_eq_false_iff_eq]; omega
  have A100 := Lib.hid (show a.length ≤ 100000 by omega)
  have B100 := Lib.hid (show b.length ≤ 100000 by omega)
  have HZ := Lib.hid hz
  have HZ' := Lib.hid hz'
  clear hz hz'
  have HNA := Lib.hid hna
  clear hna
  have HNB := Lib.hid hnb
  clear hnb
  clear h3
  go_enter Try.func16, Try.ntmps16
  go_wp2_with fail
  refine (rnames_any a _ _ A100.out HZ.out V1.out).mono ?_
  rw [HNA.out]
  rintro e w' ⟨rfl, rfl⟩
  go_wp2_with fail
  refine (rnames_any b _ _ B100.out HZ'.out U1.out).mono ?_
  rw [HNB.out]
  rintro e w' ⟨rfl, rfl⟩
  go_wp2
  go_ret
  exact ⟨rfl, HB.out⟩
theorem rck_f (a b : List ByteArray) (v u : Value) (w : World) (hv : Lst stc w v a) (hu : Lst stc w u b) (h1 : ¬ (200 : Int) < (a.length : Int)) (h2 : ¬ (200 : Int) < (b.length : Int)) (h3 : a.length = b.length) (hz : ∀ x ∈ a, x.size ≤ 100000) (hz' : ∀ x ∈ b, x.size ≤ 100000) (hc : ∀ b n c, v = .slice b n c → n ≤ c) (hc' : ∀ b n c, u = .slice b n c → n ≤ c) (hna : a.all nameB = true) (hnb : b.all nameB = true) (hta : twB a a.length = true) :
    Calls Try.prog 16 #[.agg #[v, u]] w fun e w' => e = .returned (.int .i64 5) ∧ Below w.heap.size w w' := by
  have HB := Lib.hid ((Below.refl w.heap.size w).alloc (Nat.le_refl _) (.cells #[v, u] 29))
  have V1 := Lib.hid (hv.below HB.out)
  have U1 := Lib.hid (hu.below HB.out)
  obtain ⟨x, y, rfl⟩ := hv.slice
  obtain ⟨x', y', rfl⟩ := hu.slice
  clear hv hu
  have h1' : decide ((200 : Int) < (a.length : Int)) = false := decide_eq_false h1
  have h2' : decide ((200 : Int) < (b.length : Int)) = false := decide_eq_false h2
  have hne : ((a.length : Int) != (b.length : Int)) = false := by rw [bne_eq_false_iff_eq]; omega
  have A100 := Lib.hid (show a.length ≤ 100000 by omega)
  have B100 := Lib.hid (show b.length ≤ 100000 by omega)
  have HZ := Lib.hid hz
  have HZ' := Lib.hid hz'
  clear hz hz'
  have HC := Lib.hid hc
  have HC' := Lib.hid hc'
  clear hc hc'
  have HNA := Lib.hid hna
  clear hna
  have HNB := Lib.hid hnb
  clear hnb
  have HTA := Lib.hid hta
  clear hta
  clear h3
  go_enter Try.func16, Try.ntmps16
  go_wp2_with fail
  refine (rnames_any a _ _ A100.out HZ.out V1.out).mono ?_
  rw [HNA.out]
  rintro e w' ⟨rfl, rfl⟩
  go_wp2_with fail
  refine (rnames_any b _ _ B100.out HZ'.out U1.out).mono ?_
  rw [HNB.out]
  rintro e w' ⟨rfl, rfl⟩
  go_wp2_with fail
  refine (ronce_any a _ _ A100.out V1.out HC.out).mono ?_
  rw [HTA.out]
  rintro e w1 ⟨rfl, b1⟩
  have B1 := Lib.hid (HB.out.trans (b1.mono HB.out.size))
  clear b1
  go_wp2
  go_ret
  exact ⟨rfl, B1.out⟩
theorem rck_g (a b : List ByteArray) (v u : Value) (w : World) (hv : Lst stc w v a) (hu : Lst stc w u b) (h1 : ¬ (200 : Int) < (a.length : Int)) (h2 : ¬ (200 : Int) < (b.length : Int)) (h3 : a.length = b.length) (hz : ∀ x ∈ a, x.size ≤ 100000) (hz' : ∀ x ∈ b, x.size ≤ 100000) (hc : ∀ b n c, v = .slice b n c → n ≤ c) (hc' : ∀ b n c, u = .slice b n c → n ≤ c) (hna : a.all nameB = true) (hnb : b.all nameB = true) (hta : twB a a.length = false) (htb : twB b b.length = true) :
    Calls Try.prog 16 #[.agg #[v, u]] w fun e w' => e = .returned (.int .i64 5) ∧ Below w.heap.size w w' := by
  have HB := Lib.hid ((Below.refl w.heap.size w).alloc (Nat.le_refl _) (.cells #[v, u] 29))
  have V1 := Lib.hid (hv.below HB.out)
  have U1 := Lib.hid (hu.below HB.out)
  obtain ⟨x, y, rfl⟩ := hv.slice
  obtain ⟨x', y', rfl⟩ := hu.slice
  clear hv hu
  have h1' : decide ((200 : Int) < (a.length : Int)) = false := decide_eq_false h1
  have h2' : decide ((200 : Int) < (b.length : Int)) = false := decide_eq_false h2
  have hne : ((a.length : Int) != (b.length : Int)) = false := by rw [bne_eq_false_iff_eq]; omega
  have A100 := Lib.hid (show a.length ≤ 100000 by omega)
  have B100 := Lib.hid (show b.length ≤ 100000 by omega)
  have HZ := Lib.hid hz
  have HZ' := Lib.hid hz'
  clear hz hz'
  have HC := Lib.hid hc
  have HC' := Lib.hid hc'
  clear hc hc'
  have HNA := Lib.hid hna
  clear hna
  have HNB := Lib.hid hnb
  clear hnb
  have HTA := Lib.hid hta
  clear hta
  have HTB := Lib.hid htb
  clear htb
  clear h3
  go_enter Try.func16, Try.ntmps16
  go_wp2_with fail
  refine (rnames_any a _ _ A100.out HZ.out V1.out).mono ?_
  rw [HNA.out]
  rintro e w' ⟨rfl, rfl⟩
  go_wp2_with fail
  refine (rnames_any b _ _ B100.out HZ'.out U1.out).mono ?_
  rw [HNB.out]
  rintro e w' ⟨rfl, rfl⟩
  go_wp2_with fail
  refine (ronce_any a _ _ A100.out V1.out HC.out).mono ?_
  rw [HTA.out]
  rintro e w1 ⟨rfl, b1⟩
  have B1 := Lib.hid (HB.out.trans (b1.mono HB.out.size))
  have U2 := Lib.hid (U1.out.below b1)
  have c1 := b1.cell (p := ⟨w.heap.size, 1, none⟩) (by simp)
  simp at c1
  clear b1
  go_wp2_with fail
  refine (ronce_any b _ _ B100.out U2.out HC'.out).mono ?_
  rw [HTB.out]
  rintro e w2 ⟨rfl, b2⟩
  have B2 := Lib.hid (B1.out.trans (b2.mono B1.out.size))
  clear b2
  go_wp2
  go_ret
  exact ⟨rfl, B2.out⟩
theorem rck_h (a b : List ByteArray) (v u : Value) (w : World) (hv : Lst stc w v a) (hu : Lst stc w u b) (h1 : ¬ (200 : Int) < (a.length : Int)) (h2 : ¬ (200 : Int) < (b.length : Int)) (h3 : a.length = b.length) (hz : ∀ x ∈ a, x.size ≤ 100000) (hz' : ∀ x ∈ b, x.size ≤ 100000) (hc : ∀ b n c, v = .slice b n c → n ≤ c) (hc' : ∀ b n c, u = .slice b n c → n ≤ c) (hna : a.all nameB = true) (hnb : b.all nameB = true) (hta : twB a a.length = false) (htb : twB b b.length = false) :
    Calls Try.prog 16 #[.agg #[v, u]] w fun e w' => e = .returned (.int .i64 0) ∧ Below w.heap.size w w' := by
  have HB := Lib.hid ((Below.refl w.heap.size w).alloc (Nat.le_refl _) (.cells #[v, u] 29))
  have V1 := Lib.hid (hv.below HB.out)
  have U1 := Lib.hid (hu.below HB.out)
  obtain ⟨x, y, rfl⟩ := hv.slice
  obtain ⟨x', y', rfl⟩ := hu.slice
  clear hv hu
  have h1' : decide ((200 : Int) < (a.length : Int)) = false := decide_eq_false h1
  have h2' : decide ((200 : Int) < (b.length : Int)) = false := decide_eq_false h2
  have hne : ((a.length : Int) != (b.length : Int)) = false := by rw [bne_eq_false_iff_eq]; omega
  have A100 := Lib.hid (show a.length ≤ 100000 by omega)
  have B100 := Lib.hid (show b.length ≤ 100000 by omega)
  have HZ := Lib.hid hz
  have HZ' := Lib.hid hz'
  clear hz hz'
  have HC := Lib.hid hc
  have HC' := Lib.hid hc'
  clear hc hc'
  have HNA := Lib.hid hna
  clear hna
  have HNB := Lib.hid hnb
  clear hnb
  have HTA := Lib.hid hta
  clear hta
  have HTB := Lib.hid htb
  clear htb
  clear h3
  go_enter Try.func16, Try.ntmps16
  go_wp2_with fail
  refine (rnames_any a _ _ A100.out HZ.out V1.out).mono ?_
  rw [HNA.out]
  rintro e w' ⟨rfl, rfl⟩
  go_wp2_with fail
  refine (rnames_any b _ _ B100.out HZ'.out U1.out).mono ?_
  rw [HNB.out]
  rintro e w' ⟨rfl, rfl⟩
  go_wp2_with fail
  refine (ronce_any a _ _ A100.out V1.out HC.out).mono ?_
  rw [HTA.out]
  rintro e w1 ⟨rfl, b1⟩
  have B1 := Lib.hid (HB.out.trans (b1.mono HB.out.size))
  have U2 := Lib.hid (U1.out.below b1)
  have c1 := b1.cell (p := ⟨w.heap.size, 1, none⟩) (by simp)
  simp at c1
  clear b1
  go_wp2_with fail
  refine (ronce_any b _ _ B100.out U2.out HC'.out).mono ?_
  rw [HTB.out]
  rintro e w2 ⟨rfl, b2⟩
  have B2 := Lib.hid (B1.out.trans (b2.mono B1.out.size))
  clear b2
  go_wp2
  go_ret
  exact ⟨rfl, B2.out⟩

theorem rcheck_any (a b : List ByteArray) (v u : Value) (w : World) (hv : Lst stc w v a) (hu : Lst stc w u b) (hz : ∀ x ∈ a, x.size ≤ 100000) (hz' : ∀ x ∈ b, x.size ≤ 100000) (hc : ∀ b n c, v = .slice b n c → n ≤ c) (hc' : ∀ b n c, u = .slice b n c → n ≤ c) :
    Calls Try.prog 16 #[.agg #[v, u]] w fun e w' => e = .returned (.int .i64 (checkF a b)) ∧ Below w.heap.size w w' := by
  by_cases h1 : (200 : Int) < (a.length : Int)
  · rw [show checkF a b = 8 from by unfold checkF; rw [if_pos (.inl (by omega))]]
    exact rck_a a b v u w hv hu h1
  by_cases h2 : (200 : Int) < (b.length : Int)
  · rw [show checkF a b = 8 from by unfold checkF; rw [if_pos (.inr (by omega))]]
    exact rck_b a b v u w hv hu h1 h2
  have h12 : ¬ (200 < a.length ∨ 200 < b.length) := by omega
  by_cases h3 : a.length = b.length
  · cases hna : a.all nameB
    · have hn : ¬ ((∀ x ∈ a, nameB x = true) ∧ ∀ x ∈ b, nameB x = true) := fun h => by rw [List.all_eq_true.2 h.1] at hna; cases hna
      rw [show checkF a b = 4 from by unfold checkF; rw [if_neg h12, if_neg (by simpa using h3), if_pos hn]]
      exact rck_d a b v u w hv hu h1 h2 h3 hz hz' hna
    · cases hnb : b.all nameB
      · have hn : ¬ ((∀ x ∈ a, nameB x = true) ∧ ∀ x ∈ b, nameB x = true) := fun h => by rw [List.all_eq_true.2 h.2] at hnb; cases hnb
        rw [show checkF a b = 4 from by unfold checkF; rw [if_neg h12, if_neg (by simpa using h3), if_pos hn]]
        exact rck_e a b v u w hv hu h1 h2 h3 hz hz' hna hnb
      · have hn : (∀ x ∈ a, nameB x = true) ∧ ∀ x ∈ b, nameB x = true := ⟨List.all_eq_true.1 hna, List.all_eq_true.1 hnb⟩
        cases hta : twB a a.length
        · cases htb : twB b b.length
          · rw [show checkF a b = 0 from by unfold checkF; rw [if_neg h12, if_neg (by simpa using h3), if_neg (fun h => h hn), if_neg (fun h => h ⟨(tw_once a).1 hta, (tw_once b).1 htb⟩)]]
            exact rck_h a b v u w hv hu h1 h2 h3 hz hz' hc hc' hna hnb hta htb
          · have ho : ¬ (Once a ∧ Once b) := fun h => by rw [(tw_once b).2 h.2] at htb; cases htb
            rw [show checkF a b = 5 from by unfold checkF; rw [if_neg h12, if_neg (by simpa using h3), if_neg (fun h => h hn), if_pos ho]]
            exact rck_g a b v u w hv hu h1 h2 h3 hz hz' hc hc' hna hnb hta htb
        · have ho : ¬ (Once a ∧ Once b) := fun h => by rw [(tw_once a).2 h.1] at hta; cases hta
          rw [show checkF a b = 5 from by unfold checkF; rw [if_neg h12, if_neg (by simpa using h3), if_neg (fun h => h hn), if_pos ho]]
          exact rck_f a b v u w hv hu h1 h2 h3 hz hz' hc hc' hna hnb hta
  · rw [show checkF a b = 1 from by unfold checkF; rw [if_neg h12, if_pos h3]]
    exact rck_c a b v u w hv hu h1 h2 h3
end Go.Proofs.Ytadodccciejghaa
