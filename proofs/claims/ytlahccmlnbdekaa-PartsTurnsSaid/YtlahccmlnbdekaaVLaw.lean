/-
  Contracts of the statements' One and Few, and of the document's Same.
-/
import Derived.Test.YtlahccmlnbdekaaVRefs
import Derived.Laws.ResultCell
namespace Go.Proofs.Ytlahccmlnbdekaa
open Go.ChangeShapes Go.WideShapes Go.ChangeAt Go.RowKit
set_option linter.unusedVariables false

/-- One, and Few. -/
def oneV (v : Ver) : Ver := if 2001 < v.data.size then { v with data := v.data.extract 0 2001 } else v
theorem oneV_ok {v : Ver} (h : okV v) : okV (oneV v) := by
  unfold oneV
  split
  · refine ⟨h.1, ?_, h.2.2⟩
    show (v.data.extract 0 2001).size ≤ maxLen
    rw [size_cut _ (by omega)]; unfold maxLen; omega
  · exact h
theorem oneV_size (v : Ver) : (oneV v).data.size ≤ 2001 := by
  unfold oneV
  split
  · show (v.data.extract 0 2001).size ≤ 2001
    rw [size_cut _ (by omega)]; omega
  · omega
def fewV (l : List Ver) : List Ver := (l.take 21).map oneV
theorem Q.set {a b : World} (h : Q a b) {g k : Nat} (hg : a.heap.size ≤ g) (u : Value) : Q a (b.setCell ⟨g, k, none⟩ u) := Below.setCell h hg u

theorem few_take (l : List Ver) (i : Nat) (h : i < l.length) : (l.take (i + 1)).map oneV = (l.take i).map oneV ++ [oneV l[i]] := by
  rw [List.take_succ_eq_append_getElem h, List.map_append]; rfl

end Go.Proofs.Ytlahccmlnbdekaa
