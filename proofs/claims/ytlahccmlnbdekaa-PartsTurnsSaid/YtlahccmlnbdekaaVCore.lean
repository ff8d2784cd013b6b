/-
  Versions: as values, as cells, as slices; what may be.
-/
import Derived.Test.YtlahccmlnbdekaaCore
namespace Go.Proofs.Ytlahccmlnbdekaa
open Go.ChangeShapes Go.WideShapes Go.ChangeAt Go.RowKit
set_option linter.unusedVariables false

/-- A version. -/
structure Ver where
  id : Nat
  data : ByteArray
  mark : Bool
  tm : Int
/-- A version as a value, and as it lies in memory. -/
def ver (v : Ver) : Value := .agg #[.int .u64 (v.id : Nat), .string v.data, .bool v.mark, .int .i64 v.tm]
def vcells (v : Ver) : List Value := [.int .u64 (v.id : Nat), .string v.data, .bool v.mark, .int .i64 v.tm]
/-- May it be? -/
def mayV (v : Ver) : Bool := decide (v.id ≤ 281474976710655) && decide (v.data.size ≤ 2000) && (!v.mark || decide (v.data.size = 0)) && decide (0 ≤ v.tm) && decide (v.tm ≤ 1099511627775)
theorem mayV_iff {v : Ver} : mayV v = true ↔ v.id ≤ 281474976710655 ∧ v.data.size ≤ 2000 ∧ (v.mark = true → v.data.size = 0) ∧ 0 ≤ v.tm ∧ v.tm ≤ 1099511627775 := by
  unfold mayV
  cases v.mark <;> simp [and_assoc]
theorem emp_no {t : ByteArray} (h : 0 < t.size) : (t.toList == []) = false := by
  have : ¬ t.toList = [] := fun e => by have := (nil_text t).1 e; omega
  simpa using this
theorem emp_no' {t : ByteArray} (h : 0 < t.size) : t.toList.isEmpty = false := by
  cases e : t.toList.isEmpty with
  | false => rfl
  | true => have := (nil_text t).1 (List.isEmpty_iff.1 e); omega
theorem emp_yes {t : ByteArray} (h : t.size = 0) : (t.toList == []) = true := by
  rw [(nil_text t).2 h]; rfl
theorem emp_yes' {t : ByteArray} (h : t.size = 0) : t.toList.isEmpty = true := List.isEmpty_iff.2 ((nil_text t).2 h)

theorem three (t : Int) : ¬ 0 ≤ t ∨ (0 ≤ t ∧ t ≤ 1099511627775) ∨ (0 ≤ t ∧ ¬ t ≤ 1099511627775) := by omega
end Go.Proofs.Ytlahccmlnbdekaa
