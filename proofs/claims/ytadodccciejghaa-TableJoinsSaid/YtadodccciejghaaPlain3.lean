/- Tables, plainly: what the laws ask. -/
import Derived.Test.YtadodccciejghaaPlain2
import Derived.Test.YtadodccciejghaaTMap
import Derived.Test.YtadodccciejghaaTJoin
namespace Go.Proofs.Ytadodccciejghaa

theorem few_of {l : List ByteArray} {m : Nat} (h : fewB l m = true) : l.length ≤ m ∧ ∀ x ∈ l, x.size ≤ 60 := by
  unfold fewB at h
  rw [Bool.and_eq_true, decide_eq_true_eq, List.all_eq_true] at h
  refine ⟨h.2, fun x hx => of_decide_eq_true (h.1 x ?_)⟩
  rw [List.take_of_length_le (by omega)]
  exact hx
theorem check_turn {a b : List ByteArray} : checkF a b = 0 ↔ checkF b a = 0 := by
  rw [check_ok, check_ok]
  exact ⟨TableOk.turn, TableOk.turn⟩
theorem okL_yes {q : Int} (h : q = 0) (l : List ByteArray) : okL q l = l := if_pos h
theorem okL_no {q : Int} (h : ¬ q = 0) (l : List ByteArray) : okL q l = [] := if_neg h
theorem aheadF_no {a b : List ByteArray} (h : ¬ checkF a b = 0) (s : ByteArray) : aheadF a b s = (⟨#[]⟩, false) := by unfold aheadF; rw [if_neg h]
theorem aheadF_yes {a b : List ByteArray} (h : checkF a b = 0) (s : ByteArray) : aheadF a b s = resF (goL a b s) := by unfold aheadF; rw [if_pos h, goF_res]
theorem aheadF_nil (s : ByteArray) : aheadF [] [] s = (⟨#[]⟩, false) := rfl
theorem same_self (l : List ByteArray) : eqL stEq l l = true := eqL_self stEq_self l
end Go.Proofs.Ytadodccciejghaa
