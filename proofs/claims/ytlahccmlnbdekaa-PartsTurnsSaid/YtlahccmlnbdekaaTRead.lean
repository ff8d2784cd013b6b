/-
  Contracts of the program's digit, number, Parse, count, Read.
-/
import Derived.Test.YtlahccmlnbdekaaTNum
namespace Go.Proofs.Ytlahccmlnbdekaa
open Go.ChangeShapes Go.WideShapes Go.ChangeAt Go.RowKit
set_option linter.unusedVariables false

/-- What number tells. -/
def numV : Option Nat → Value
  | some n => .tuple #[.int .u32 n, .bool true]
  | none => .tuple #[.int .u32 0, .bool false]
/-- What Parse tells. -/
def tagV : Option Nat → Value
  | some n => .tuple #[.int .u32 n, .int .i64 0]
  | none => .tuple #[.int .u32 0, .int .i64 2]
/-- What count tells. -/
def cntV : Option Nat → Value
  | some n => .tuple #[.int .i64 n, .bool true]
  | none => .tuple #[.int .i64 0, .bool false]
/-- What Read tells. -/
def readV : Option (Nat × Nat) → Value
  | some (t, n) => .tuple #[.int .u32 t, .int .i64 n, .int .i64 0]
  | none => .tuple #[.int .u32 0, .int .i64 0, .int .i64 2]
theorem cntP_nil : cntP [] = none := rfl
end Go.Proofs.Ytlahccmlnbdekaa
