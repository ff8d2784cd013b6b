/-
  Contracts of the document's without, Check, Find, Same.
-/
import Derived.Test.YtipipjpdlblifaaVers
namespace Go.Proofs.Ytipipjpdlblifaa
open Go.ChangeShapes Go.WideShapes Go.ChangeAt Go.RowKit
set_option linter.unusedVariables false

/-- The chain without a version. -/
def woV (l : List Ver) (id : Nat) : List Ver := l.filter fun x => decide (x.id ≠ id)
theorem wo_take_no {l : List Ver} {i id : Nat} (h : i < l.length) (k : l[i].id = id) : woV (l.take (i + 1)) id = woV (l.take i) id := by
  rw [List.take_succ_eq_append_getElem h, woV, List.filter_append, ← woV, List.filter_cons_of_neg (by simp [k])]; simp
theorem wo_take_yes {l : List Ver} {i id : Nat} (h : i < l.length) (k : l[i].id ≠ id) : woV (l.take (i + 1)) id = woV (l.take i) id ++ [l[i]] := by
  rw [List.take_succ_eq_append_getElem h, woV, List.filter_append, ← woV, List.filter_cons_of_pos (by simp [k])]; rfl
theorem wo_length (l : List Ver) (id : Nat) : (woV l id).length ≤ l.length := List.length_filter_le ..

end Go.Proofs.Ytipipjpdlblifaa
