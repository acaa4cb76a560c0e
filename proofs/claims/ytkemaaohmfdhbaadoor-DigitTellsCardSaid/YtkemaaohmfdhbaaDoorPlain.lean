/- Numbers as bytes, plain. -/
import Derived.Lib.ItoaNum
namespace Go.Proofs.YtkemaaohmfdhbaaDoor
open Go.Lib

/-- the greatest number -/
def most : Nat := 2147483647
def isDg (c : UInt8) : Bool := decide (48 ≤ c.toNat ∧ c.toNat ≤ 57)
/-- the value of digits -/
def dval (l : List UInt8) : Nat := l.foldl (fun n c => 10 * n + (c.toNat - 48)) 0
/-- the digits with which bytes begin -/
def run (l : List UInt8) : List UInt8 := l.takeWhile isDg
/-- the number in digits from the first byte on, if there is one -/
def getV (l : List UInt8) : Option (Nat × Nat) :=
  if (run l).length = 0 ∨ 10 < (run l).length ∨ (1 < (run l).length ∧ l.head? = some 48) ∨ most < dval (run l) then none else some (dval (run l), (run l).length)
/-- what Get tells: the number, the place behind, the error -/
def getR (l : List UInt8) (at' : Int) : Int × Int × Int :=
  if at' < 0 ∨ (l.length : Int) < at' then (0, at', 3) else
  match getV (l.drop at'.toNat) with
  | some (n, k) => (n, at' + k, 0)
  | none => (0, at', 3)

theorem dval_snoc (l : List UInt8) (c : UInt8) : dval (l ++ [c]) = 10 * dval l + (c.toNat - 48) := by simp [dval]
theorem run_le (l : List UInt8) : (run l).length ≤ l.length := by
  unfold run; exact (List.takeWhile_prefix _).length_le
theorem run_is : ∀ (l : List UInt8) (k : Nat), k ≤ l.length → (∀ j, (h : j < k) → (h' : j < l.length) → isDg l[j] = true) → (∀ h : k < l.length, isDg l[k] = false) → run l = l.take k
  | [], k, hk, _, _ => by
    obtain rfl : k = 0 := by simpa using hk
    rfl
  | c :: l, 0, _, _, h => by
    have := h (by simp)
    simp only [List.getElem_cons_zero] at this
    simp [run, this]
  | c :: l, k + 1, hk, h1, h2 => by
    have h0 := h1 0 (by omega) (by simp)
    simp only [List.getElem_cons_zero] at h0
    have := run_is l k (by simpa using hk) (fun j h h' => by have := h1 (j + 1) (by omega) (by simp; omega); simpa using this) (fun h => by have := h2 (by simp; omega); simpa using this)
    unfold run at this ⊢
    rw [List.takeWhile_cons, if_pos h0, this, List.take_succ_cons]
theorem run_dg : ∀ (l : List UInt8), ∀ c ∈ run l, isDg c = true
  | [], c, hc => by simp [run] at hc
  | a :: l, c, hc => by
    unfold run at hc
    rw [List.takeWhile_cons] at hc
    split at hc
    · rename_i h
      rcases List.mem_cons.1 hc with rfl | hc
      · exact h
      · exact run_dg l c hc
    · simp at hc
theorem run_take (l : List UInt8) : run l = l.take (run l).length := by
  unfold run
  exact (List.prefix_iff_eq_take.1 (List.takeWhile_prefix _))
theorem dval_lt (l : List UInt8) (h : ∀ c ∈ l, isDg c = true) : dval l < 10 ^ l.length := by
  suffices ∀ (l : List UInt8) (n : Nat) (k : Nat), n < 10 ^ k → (∀ c ∈ l, isDg c = true) → l.foldl (fun n c => 10 * n + (c.toNat - 48)) n < 10 ^ (k + l.length) by
    have := this l 0 0 (by simp) h
    rw [Nat.zero_add] at this
    exact this
  intro l
  induction l with
  | nil => intro n k h _; simpa using h
  | cons c l ih =>
    intro n k hn hc
    have h1 : isDg c = true := hc c (by simp)
    simp only [isDg, decide_eq_true_eq] at h1
    have := ih (10 * n + (c.toNat - 48)) (k + 1) (by rw [Nat.pow_succ]; omega) (fun d hd => hc d (by simp [hd]))
    rw [List.foldl_cons, List.length_cons]
    rw [show k + (l.length + 1) = k + 1 + l.length from by omega]
    exact this
theorem dval_mono (l m : List UInt8) : dval l ≤ dval (l ++ m) := by
  unfold dval
  rw [List.foldl_append]
  generalize l.foldl (fun n c => 10 * n + (c.toNat - 48)) 0 = n
  induction m generalizing n with
  | nil => exact Nat.le_refl _
  | cons c m ih => rw [List.foldl_cons]; exact Nat.le_trans (by omega) (ih (10 * n + (c.toNat - 48)))

/-- groups of seven bits, the lowest ones first -/
def grp (n : Nat) : List UInt8 := if h : n < 128 then [UInt8.ofNat n] else UInt8.ofNat (n % 128 + 128) :: grp (n / 128)
termination_by n
decreasing_by omega
/-- the value of groups -/
def gval : List UInt8 → Nat
  | [] => 0
  | c :: l => 128 * gval l + c.toNat % 128
/-- the place of the first byte that no group follows -/
def lastG (l : List UInt8) : Option Nat := l.findIdx? fun c => decide (c.toNat < 128)
/-- the number in groups from the first byte on; 10: it ends too early, 3: it is none -/
def undV (l : List UInt8) : Nat × Nat × Int :=
  match lastG l with
  | none => (0, 0, 10)
  | some e => if 5 ≤ e ∨ (0 < e ∧ l[e]? = some 0) ∨ most < gval (l.take (e + 1)) then (0, 0, 3) else (gval (l.take (e + 1)), e + 1, 0)
def undR (l : List UInt8) (at' : Int) : Int × Int × Int :=
  if at' < 0 then (0, at', 10) else
  if (undV (l.drop at'.toNat)).2.2 = 0 then ((undV (l.drop at'.toNat)).1, at' + (undV (l.drop at'.toNat)).2.1, 0) else (0, at', (undV (l.drop at'.toNat)).2.2)

theorem gval_lt (l : List UInt8) : gval l < 128 ^ l.length := by
  induction l with
  | nil => simp [gval]
  | cons c l ih =>
    rw [gval, List.length_cons, Nat.pow_succ]
    have := Nat.mod_lt c.toNat (show 0 < 128 by omega)
    omega
theorem lastG_none (l : List UInt8) (h : ∀ c ∈ l, ¬ c.toNat < 128) : lastG l = none := by
  unfold lastG
  rw [List.findIdx?_eq_none_iff]
  intro c hc
  exact decide_eq_false (h c hc)
theorem lastG_some (l : List UInt8) (e : Nat) (he : e < l.length) (h : l[e].toNat < 128) (hno : ∀ j, (hj : j < e) → ¬ (l[j]'(by omega)).toNat < 128) : lastG l = some e := by
  unfold lastG
  rw [List.findIdx?_eq_some_iff_getElem]
  exact ⟨he, decide_eq_true h, fun j hj => by simpa using hno j hj⟩

theorem grp_small {n : Nat} (h : n < 128) : grp n = [UInt8.ofNat n] := by rw [grp, dif_pos h]
theorem grp_big {n : Nat} (h : ¬ n < 128) : grp n = UInt8.ofNat (n % 128 + 128) :: grp (n / 128) := by rw [grp, dif_neg h]
theorem grp_len : ∀ (k n : Nat), n < 128 ^ (k + 1) → (grp n).length ≤ k + 1
  | 0, n, h => by rw [grp_small (by simpa using h)]; simp
  | k + 1, n, h => by
    by_cases h1 : n < 128
    · rw [grp_small h1]; simp
    · rw [grp_big h1, List.length_cons]
      have := grp_len k (n / 128) (by rw [Nat.pow_succ] at h; omega)
      omega
theorem grp_pos (n : Nat) : 1 ≤ (grp n).length := by
  by_cases h1 : n < 128
  · rw [grp_small h1]; simp
  · rw [grp_big h1]; simp
end Go.Proofs.YtkemaaohmfdhbaaDoor
