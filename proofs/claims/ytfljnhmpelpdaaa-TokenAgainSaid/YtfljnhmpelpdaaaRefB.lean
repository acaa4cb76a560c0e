/- The document's reader of BENCH: its small parts. -/
import Derived.Test.YtfljnhmpelpdaaaVerilog
import Derived.Lib.IndexAny
import Derived.Lib.IndexLaws
namespace Go.Proofs.Ytfljnhmpelpdaaa
open Go.RowKit

theorem isOf_mem (t : ByteArray) (c : UInt8) : isOf t c = t.data.toList.contains c := (Lib.contains_iff_indexByte _ _).symm
theorem isOf_yes (t : ByteArray) (c : UInt8) (k : Nat) (h : t.data.toList[k]? = some c) : isOf t c = true := by
  rw [isOf_mem, List.contains_iff_mem]
  exact List.mem_of_getElem? h
theorem isOf_no (t : ByteArray) (c : UInt8) (h : ∀ j, j < t.size → t.data.toList[j]? ≠ some c) : isOf t c = false := by
  rw [isOf_mem]
  cases hc : t.data.toList.contains c
  · rfl
  · exfalso
    rw [List.contains_iff_mem] at hc
    obtain ⟨j, hj⟩ := List.mem_iff_getElem?.1 hc
    have hl := (List.getElem?_eq_some_iff.1 hj).1
    exact h j (by simpa using hl) hj

set_option maxHeartbeats 1000000 in
theorem in_any (t : ByteArray) (c : UInt8) (w : World) (ht : t.size ≤ 1000) :
    Calls Try.prog 25 #[.int .u8 (c.toNat : Int), .string t] w fun e w' => e = .returned (.bool (isOf t c)) ∧ w = w' := by
  go_enter Try.func25, Try.ntmps25
  go_wp2
  go_loop [5] (fun i => ∃ k : Nat, k ≤ t.size ∧ i = .int .i64 (k : Int) ∧ Hid (∀ j, j < k → t.data.toList[j]? ≠ some c)) (fun i => t.size - (intOf i).toNat)
  case atStart => exact ⟨0, Nat.zero_le _, rfl, Lib.hid fun j h => absurd h (by omega)⟩
  case round =>
    obtain ⟨k, hk, rfl, hall⟩ := hrel
    by_cases hlt : k < t.size
    · obtain ⟨d, hd, _⟩ := atB_byte t k hlt
      have hix := atB_run t k hlt _ hd
      have hdl : t.data.toList[k]? = some d := by
        have : t.data.toList[k]? = some (t.data.toList[k]'(by simpa using hlt)) := List.getElem?_eq_getElem _
        rw [this]
        unfold atB at hd
        rw [this] at hd
        simp only [Option.map_some, Option.getD_some] at hd
        rw [Option.some.injEq]
        exact UInt8.toNat_inj.1 (by omega)
      have HD := Lib.hid hdl
      have hlt' : (k : Int) < (t.size : Int) := by omega
      clear hd hdl
      by_cases he : d = c
      · subst he
        have hr := Lib.hid (isOf_yes t d k HD.out)
        have hb : ((d.toNat : Int) == (d.toNat : Int)) = true := by simp
        go_wp2
        go_ret
        rw [hr.out]
        exact ⟨rfl, by first | rfl | trivial⟩
      · have hb : ((d.toNat : Int) == (c.toNat : Int)) = false := by
          rw [beq_eq_false_iff_ne]
          intro h
          exact he (UInt8.toNat_inj.1 (by omega))
        have hn : ∀ j, j < k + 1 → t.data.toList[j]? ≠ some c := by
          intro j h1 h2
          by_cases hj : j < k
          · exact hall.out j hj h2
          · have : j = k := by omega
            subst this
            rw [HD.out] at h2
            exact he (Option.some.inj h2)
        have HN := Lib.hid hn
        clear hn he
        go_wp2
        refine ⟨⟨k + 1, by omega, by go_num, HN⟩, ?_⟩
        simp [intOf]; omega
    · have hr := Lib.hid (isOf_no t c fun j hj => hall.out j (by omega))
      have hge : (t.size : Int) ≤ (k : Int) := by omega
      go_wp2
      go_ret
      rw [hr.out]
      exact ⟨rfl, by first | rfl | trivial⟩

/-- a blank of the document's -/
def kb (c : UInt8) : Bool := isOf ⟨#[9, 13, 32]⟩ c
theorem kb_is (c : UInt8) : kb c = (((c.toNat : Int) == 9) || (((c.toNat : Int) == 13) || ((c.toNat : Int) == 32))) := by
  have e : ∀ n : UInt8, ((c.toNat : Int) == (n.toNat : Int)) = (c == n) := fun n => by
    rw [Bool.eq_iff_iff, beq_iff_eq, beq_iff_eq, ← UInt8.toNat_inj]
    omega
  have e9 := e 9
  have e13 := e 13
  have e32 := e 32
  simp only [UInt8.reduceToNat, Int.cast_ofNat_Int] at e9 e13 e32
  unfold kb
  rw [isOf_mem, e9, e13, e32, Bool.eq_iff_iff]
  simp
theorem blank_any (c : UInt8) (w : World) :
    Calls Try.prog 24 #[.int .u8 (c.toNat : Int)] w fun e w' => e = .returned (.bool (kb c)) ∧ w = w' := by
  rw [kb_is]
  generalize (c.toNat : Int) = z
  cases h1 : (z == 9)
  · cases h2 : (z == 13)
    · cases h3 : (z == 32) <;>
      · go_enter Try.func24, Try.ntmps24
        go_wp2
        go_ret
        exact ⟨rfl, rfl⟩
    · go_enter Try.func24, Try.ntmps24
      go_wp2
      go_ret
      exact ⟨rfl, rfl⟩
  · go_enter Try.func24, Try.ntmps24
    go_wp2
    go_ret
    exact ⟨rfl, rfl⟩

/-- where a line ends -/
theorem upP_line (s : ByteArray) (a : Nat) (ha : a ≤ s.size) : upP s a ⟨#[10]⟩ = skip (fun c => !(c == 10)) s a := by
  have h : ∀ l : List UInt8, (if 0 ≤ Lib.index l [10] then (Lib.index l [10]).toNat else l.length) = (l.takeWhile fun c => !(c == 10)).length := by
    intro l
    induction l with
    | nil => rfl
    | cons b l ih =>
      have hg := Lib.index_ge l [10]
      unfold Lib.index
      by_cases hb : b = 10
      · subst hb
        rfl
      · have hp : ([10] : List UInt8).isPrefixOf (b :: l) = false := by
          simp [List.isPrefixOf]
          exact fun h => hb h.symm
        have hbb : (b == 10) = false := by simpa using hb
        rw [hp]
        simp only [Bool.false_eq_true, if_false, List.takeWhile_cons, hbb, Bool.not_false, if_true, List.length_cons]
        rw [← ih]
        by_cases h1 : Lib.index l [10] = -1
        · rw [h1]; simp
        · have h1b : (Lib.index l [10] == -1) = false := by simpa using h1
          rw [h1b]
          simp only [Bool.false_eq_true, if_false]
          rw [if_pos (by omega), if_pos (by omega)]
          omega
  unfold upP skip
  have := h (s.data.toList.drop a)
  have hl : (s.data.toList.drop a).length = s.size - a := by simp
  rw [hl] at this
  rw [← this]
  by_cases h0 : 0 ≤ Lib.index (s.data.toList.drop a) [10]
  · rw [if_pos h0, if_pos h0]
  · rw [if_neg h0, if_neg h0]; omega

set_option maxHeartbeats 1000000 in
theorem line_any (s : ByteArray) (a : Nat) (w : World) (hs : s.size ≤ 100000) (ha : a ≤ s.size) :
    Calls Try.prog 23 #[.string s, .int .i64 (a : Int)] w fun e w' => e = .returned (.int .i64 (upP s a ⟨#[10]⟩ : Int)) ∧ w = w' := by
  rw [upP_line s a ha]
  generalize hp : (fun c : UInt8 => !(c == 10)) = p
  have HP := Lib.hid hp
  clear hp
  go_enter Try.func23, Try.ntmps23
  go_wp2
  go_loop [1] (fun i => ∃ b : Nat, a ≤ b ∧ b ≤ s.size ∧ i = .int .i64 (b : Int) ∧ Hid (∀ j, (h : j < s.size) → a ≤ j → j < b → p s[j] = true)) (fun i => s.size - (intOf i).toNat)
  case atStart => exact ⟨a, Nat.le_refl _, ha, rfl, Lib.hid fun j _ h1 h2 => absurd h1 (by omega)⟩
  case round =>
    obtain ⟨b, hab, hb, rfl, hall⟩ := hrel
    by_cases hlt : b < s.size
    · have hix : ∀ wx : World, (Instr.index 9 (.string s) (.int .i64 (b : Int))).run Try.prog wx = .ok (.int .u8 (s[b].toNat : Int)) wx := fun wx => by
        rw [run_index_string wx 9 s .i64 (b : Int) Try.underlying9]
        simp [hlt]
      have hlt' : (b : Int) < (s.size : Int) := by omega
      by_cases hc : s[b] = 10
      · have hr : skip p s a = b := skip_is p s a b hab hb hall.out (fun _ => by rw [← HP.out, hc]; rfl)
        have HR := Lib.hid hr
        have hcc : ((s[b].toNat : Int) == 10) = true := by rw [hc]; rfl
        have hcn : ((s[b].toNat : Int) != 10) = false := by rw [hc]; rfl
        generalize (s[b].toNat : Int) = z at hix hcc hcn
        clear hr hc
        go_wp2
        go_ret
        rw [HR.out]
        exact ⟨rfl, by first | rfl | trivial⟩
      · have hpc : p s[b] = true := by rw [← HP.out]; simpa using hc
        have hn : ∀ j, (h : j < s.size) → a ≤ j → j < b + 1 → p s[j] = true := by
          intro j h h1 h2
          by_cases hj : j < b
          · exact hall.out j h h1 hj
          · have : j = b := by omega
            subst this
            exact hpc
        have HN := Lib.hid hn
        have hcc : ((s[b].toNat : Int) == 10) = false := by
          rw [beq_eq_false_iff_ne]
          intro h
          apply hc
          rw [← UInt8.toNat_inj]
          have : (10 : UInt8).toNat = 10 := rfl
          omega
        have hcn : ((s[b].toNat : Int) != 10) = true := by rw [bne, hcc]; rfl
        generalize (s[b].toNat : Int) = z at hix hcc hcn
        clear hn hc hpc
        go_wp2
        refine ⟨⟨b + 1, by omega, by omega, by go_num, HN⟩, ?_⟩
        simp [intOf]; omega
    · have hr : skip p s a = b := skip_is p s a b hab hb hall.out (fun h => absurd h hlt)
      have HR := Lib.hid hr
      have hge : (s.size : Int) ≤ (b : Int) := by omega
      clear hr
      go_wp2
      go_ret
      rw [HR.out]
      exact ⟨rfl, by first | rfl | trivial⟩
end Go.Proofs.Ytfljnhmpelpdaaa
