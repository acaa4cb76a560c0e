/- Legal: does a name stand in a format as it is. -/
import Derived.Test.YtfljnhmpelpdaaaDoorVer
namespace Go.Proofs.YtfljnhmpelpdaaaDoor
open Go.RowKit

def anyIn (s : ByteArray) (ch : List UInt8) : Bool := s.data.toList.any fun c => ch.contains c
theorem contains_any : ∀ (l ch : List UInt8), Lib.containsAny l ch = l.any fun c => ch.contains c
  | [], _ => rfl
  | b :: l, ch => by
    have ih := contains_any l ch
    unfold Lib.containsAny at ih ⊢
    have hg := Lib.indexAny_ge ch l
    unfold Lib.indexAny
    rw [List.any_cons]
    cases hb : ch.contains b
    · simp only [Bool.false_eq_true, if_false, Bool.false_or]
      rw [← ih]
      by_cases h1 : Lib.indexAny l ch = -1
      · rw [h1]; rfl
      · have h1b : (Lib.indexAny l ch == -1) = false := by simpa using h1
        rw [h1b]
        simp only [Bool.false_eq_true, if_false]
        rw [decide_eq_true (show 0 ≤ Lib.indexAny l ch + 1 by omega), decide_eq_true (show 0 ≤ Lib.indexAny l ch by omega)]
    · simp
def blifB (s : ByteArray) : Bool := !Lib.hasPrefix s.data.toList [46] && !anyIn s [35, 92]
def benchB (s : ByteArray) : Bool := !anyIn s [61, 40, 41, 44, 35]
theorem name_ascii (s : ByteArray) (h : nameB s = true) : ∀ (j : Nat) b, s.data.toList[j]? = some b → b.toNat < 128 := by
  intro j b hj
  unfold nameB at h
  simp only [Bool.and_eq_true, List.all_eq_true] at h
  have := h.2.2 b (List.mem_of_getElem? hj)
  unfold seenB at this
  simp at this
  omega
theorem name_size (s : ByteArray) (h : nameB s = true) : 0 < s.size ∧ s.size ≤ 40 := by
  unfold nameB at h
  simp only [Bool.and_eq_true, decide_eq_true_eq] at h
  omega

theorem contains_run (s : ByteArray) (ch : ByteArray) (w : World) (h : nameB s = true) (hc : ch.size ≤ 10) (ha : ∀ (j : Nat) b, ch.data.toList[j]? = some b → b.toNat < 128) :
    Calls Tryd.prog 62 #[.string s, .string ch] w fun e w' => e = .returned (.bool (anyIn s ch.data.toList)) ∧ Below w.heap.size w w' := by
  have hsz := name_size s h
  refine (Tryd.strings_ContainsAny_laid s ch w (by omega) (by omega) (name_ascii s h) ha).mono ?_
  rintro e w' ⟨rfl, hb⟩
  rw [contains_any]
  exact ⟨rfl, hb⟩
theorem two_ascii : ∀ (j : Nat) b, ([35, 92] : List UInt8)[j]? = some b → b.toNat < 128 := by
  intro j b h
  have := List.mem_of_getElem? h
  simp at this
  rcases this with rfl | rfl <;> decide
theorem five_ascii : ∀ (j : Nat) b, ([61, 40, 41, 44, 35] : List UInt8)[j]? = some b → b.toNat < 128 := by
  intro j b h
  have := List.mem_of_getElem? h
  simp at this
  rcases this with rfl | rfl | rfl | rfl | rfl <;> decide

theorem aiger_any (r : Value) (s : ByteArray) (w : World) (hr : r = .agg #[]) : Calls Tryd.prog 39 #[r, .string s] w fun e w' => e = .returned (.bool true) ∧ Below w.heap.size w w' := by
  subst hr
  go_enter Tryd.func39, Tryd.ntmps39
  go_wp2
  go_ret
  exact ⟨rfl, (Below.refl _ _).alloc (Nat.le_refl _) _⟩
theorem blif_any (r : Value) (s : ByteArray) (w : World) (hr : r = .agg #[]) (h : nameB s = true) : Calls Tryd.prog 40 #[r, .string s] w fun e w' => e = .returned (.bool (blifB s)) ∧ Below w.heap.size w w' := by
  subst hr
  unfold blifB
  have HN := Lib.hid h
  clear h
  cases hp : Lib.hasPrefix s.data.toList [46]
  · have HP := Lib.hid hp
    clear hp
    go_enter Tryd.func40, Tryd.ntmps40
    go_wp2_with fail
    refine (Tryd.strings_HasPrefix s ⟨#[46]⟩ _).mono ?_
    rw [show Lib.hasPrefix s.data.toList (ByteArray.data ⟨#[46]⟩).toList = false from HP.out]
    rintro e w' ⟨rfl, rfl⟩
    go_wp2_with fail
    refine (contains_run s ⟨#[35, 92]⟩ _ HN.out (by decide) two_ascii).mono ?_
    rintro e w' ⟨rfl, hb⟩
    rw [show anyIn s (ByteArray.data ⟨#[35, 92]⟩).toList = anyIn s [35, 92] from rfl]
    go_wp2
    go_ret
    exact ⟨rfl, ((Below.refl w.heap.size w).alloc (Nat.le_refl _) (.cells #[] 74)).trans (hb.mono (by simp))⟩
  · have HP := Lib.hid hp
    clear hp
    go_enter Tryd.func40, Tryd.ntmps40
    go_wp2_with fail
    refine (Tryd.strings_HasPrefix s ⟨#[46]⟩ _).mono ?_
    rw [show Lib.hasPrefix s.data.toList (ByteArray.data ⟨#[46]⟩).toList = true from HP.out]
    rintro e w' ⟨rfl, rfl⟩
    go_wp2
    go_ret
    exact ⟨rfl, (Below.refl _ _).alloc (Nat.le_refl _) _⟩
theorem bench_any (r : Value) (s : ByteArray) (w : World) (hr : r = .agg #[]) (h : nameB s = true) : Calls Tryd.prog 41 #[r, .string s] w fun e w' => e = .returned (.bool (benchB s)) ∧ Below w.heap.size w w' := by
  subst hr
  unfold benchB
  have HN := Lib.hid h
  clear h
  go_enter Tryd.func41, Tryd.ntmps41
  go_wp2_with fail
  refine (contains_run s ⟨#[61, 40, 41, 44, 35]⟩ _ HN.out (by decide) five_ascii).mono ?_
  rintro e w' ⟨rfl, hb⟩
  rw [show anyIn s (ByteArray.data ⟨#[61, 40, 41, 44, 35]⟩).toList = anyIn s [61, 40, 41, 44, 35] from rfl]
  go_wp2
  go_ret
  exact ⟨rfl, ((Below.refl w.heap.size w).alloc (Nat.le_refl _) (.cells #[] 74)).trans (hb.mono (by simp))⟩

/-- what a format takes -/
def lawB (f : Int) (s : ByteArray) : Bool := if f = 2 then blifB s else if f = 3 then benchB s else if f = 4 then verB s else true
def legalB (f : Int) (s : ByteArray) : Bool := fmtB f && (nameB s && lawB f s)
theorem enter39 : ∀ args w, (callFunc 39 args).run Tryd.prog w = .ok (.enter 39 args) w := enters_of Tryd.func39 (by kernel_rfl) rfl
theorem enter40 : ∀ args w, (callFunc 40 args).run Tryd.prog w = .ok (.enter 40 args) w := enters_of Tryd.func40 (by kernel_rfl) rfl
theorem enter41 : ∀ args w, (callFunc 41 args).run Tryd.prog w = .ok (.enter 41 args) w := enters_of Tryd.func41 (by kernel_rfl) rfl
theorem enter42 : ∀ args w, (callFunc 42 args).run Tryd.prog w = .ok (.enter 42 args) w := enters_of Tryd.func42 (by kernel_rfl) rfl

set_option maxRecDepth 100000 in
set_option maxHeartbeats 1000000 in
theorem legal_any (f : Int) (s : ByteArray) (w : World) : Calls Tryd.prog 20 #[.int .i64 f, .string s] w fun e w' => e = .returned (.bool (legalB f s)) ∧ Below w.heap.size w w' := by
  have hmf : ∀ (fn : Fn) (first cap : Array Value) (w : World), (Instr.makeFunc fn first cap).run Tryd.prog w = .ok (.func fn first cap) w := fun _ _ _ _ => rfl
  have HB := Lib.hid (((Below.refl w.heap.size w).alloc (Nat.le_refl _) (.cells #[] 74)).alloc (by simp) (.cells #[.func (.func 39) #[.agg #[]] #[], .func (.func 39) #[.agg #[]] #[], .func (.func 40) #[.agg #[]] #[], .func (.func 41) #[.agg #[]] #[], .func (.func 42) #[.agg #[]] #[]] 75))
  unfold legalB
  cases hf : fmtB f
  · have HF := Lib.hid hf
    clear hf
    go_enter Tryd.func20, Tryd.ntmps20
    go_wp2_with fail
    refine (fmt_any f _).mono ?_
    rw [HF.out]
    rintro e w' ⟨rfl, rfl⟩
    go_wp2
    go_ret
    exact ⟨rfl, HB.out⟩
  · cases hn : nameB s
    · have HF := Lib.hid hf
      have HN := Lib.hid hn
      clear hf hn
      go_enter Tryd.func20, Tryd.ntmps20
      go_wp2_with fail
      refine (fmt_any f _).mono ?_
      rw [HF.out]
      rintro e w' ⟨rfl, rfl⟩
      go_wp2_with fail
      refine (name_any s _).mono ?_
      rw [HN.out]
      rintro e w' ⟨rfl, rfl⟩
      go_wp2
      go_ret
      exact ⟨rfl, HB.out⟩
    · have HN := Lib.hid hn
      have hsz := name_size s hn
      have hfs : f = 0 ∨ f = 1 ∨ f = 2 ∨ f = 3 ∨ f = 4 := by
        unfold fmtB at hf
        simp only [Bool.and_eq_true, decide_eq_true_eq] at hf
        omega
      clear hf hn
      rcases hfs with rfl | rfl | rfl | rfl | rfl
      · rw [show (true && (true && lawB 0 s)) = true from rfl]
        go_enter Tryd.func20, Tryd.ntmps20
        go_wp2_with fail
        refine (fmt_any 0 _).mono ?_
        rw [show fmtB 0 = true from rfl]
        rintro e w' ⟨rfl, rfl⟩
        go_wp2_with fail
        refine (name_any s _).mono ?_
        rw [HN.out]
        rintro e w' ⟨rfl, rfl⟩
        go_wp2_with fail
        refine (aiger_any _ s _ rfl).mono ?_
        rintro e w' ⟨rfl, hb⟩
        have HB2 := Lib.hid (HB.out.trans (hb.mono (by simp; omega)))
        clear hb
        go_wp2
        go_ret
        exact ⟨rfl, HB2.out⟩
      · rw [show (true && (true && lawB 1 s)) = true from rfl]
        go_enter Tryd.func20, Tryd.ntmps20
        go_wp2_with fail
        refine (fmt_any 1 _).mono ?_
        rw [show fmtB 1 = true from rfl]
        rintro e w' ⟨rfl, rfl⟩
        go_wp2_with fail
        refine (name_any s _).mono ?_
        rw [HN.out]
        rintro e w' ⟨rfl, rfl⟩
        go_wp2_with fail
        refine (aiger_any _ s _ rfl).mono ?_
        rintro e w' ⟨rfl, hb⟩
        have HB2 := Lib.hid (HB.out.trans (hb.mono (by simp; omega)))
        clear hb
        go_wp2
        go_ret
        exact ⟨rfl, HB2.out⟩
      · rw [show (true && (true && lawB 2 s)) = blifB s from rfl]
        go_enter Tryd.func20, Tryd.ntmps20
        go_wp2_with fail
        refine (fmt_any 2 _).mono ?_
        rw [show fmtB 2 = true from rfl]
        rintro e w' ⟨rfl, rfl⟩
        go_wp2_with fail
        refine (name_any s _).mono ?_
        rw [HN.out]
        rintro e w' ⟨rfl, rfl⟩
        go_wp2_with fail
        refine (blif_any _ s _ rfl HN.out).mono ?_
        rintro e w' ⟨rfl, hb⟩
        have HB2 := Lib.hid (HB.out.trans (hb.mono (by simp; omega)))
        clear hb
        go_wp2
        go_ret
        exact ⟨rfl, HB2.out⟩
      · rw [show (true && (true && lawB 3 s)) = benchB s from rfl]
        go_enter Tryd.func20, Tryd.ntmps20
        go_wp2_with fail
        refine (fmt_any 3 _).mono ?_
        rw [show fmtB 3 = true from rfl]
        rintro e w' ⟨rfl, rfl⟩
        go_wp2_with fail
        refine (name_any s _).mono ?_
        rw [HN.out]
        rintro e w' ⟨rfl, rfl⟩
        go_wp2_with fail
        refine (bench_any _ s _ rfl HN.out).mono ?_
        rintro e w' ⟨rfl, hb⟩
        have HB2 := Lib.hid (HB.out.trans (hb.mono (by simp; omega)))
        clear hb
        go_wp2
        go_ret
        exact ⟨rfl, HB2.out⟩
      · rw [show (true && (true && lawB 4 s)) = verB s from rfl]
        go_enter Tryd.func20, Tryd.ntmps20
        go_wp2_with fail
        refine (fmt_any 4 _).mono ?_
        rw [show fmtB 4 = true from rfl]
        rintro e w' ⟨rfl, rfl⟩
        go_wp2_with fail
        refine (name_any s _).mono ?_
        rw [HN.out]
        rintro e w' ⟨rfl, rfl⟩
        go_wp2_with fail
        refine (ver_any _ s _ hsz.1 hsz.2 rfl).mono ?_
        rintro e w' ⟨rfl, hb⟩
        have HB2 := Lib.hid (HB.out.trans (hb.mono (by simp; omega)))
        clear hb
        go_wp2
        go_ret
        exact ⟨rfl, HB2.out⟩
end Go.Proofs.YtfljnhmpelpdaaaDoor
