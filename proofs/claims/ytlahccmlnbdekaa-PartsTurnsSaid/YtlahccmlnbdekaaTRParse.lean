/-
  Contracts of the document's Parse and Read.
-/
import Derived.Test.YtlahccmlnbdekaaTRText
import Derived.Deep.RegionWith
namespace Go.Proofs.Ytlahccmlnbdekaa
open Go.ChangeShapes Go.WideShapes Go.ChangeAt Go.RowKit
set_option linter.unusedVariables false

/-- What the document's Read tells. -/
def rreadV : Option (Nat × Nat) → Value
  | some (t, n) => .tuple #[.int .u32 t, .int .i64 n, .bool true]
  | none => .tuple #[.int .u32 0, .int .i64 0, .bool false]
theorem no_cnt {l : List UInt8} (h : ∀ m, 1 ≤ m → m ≤ 100 → cnt m ≠ l) : cntP l = none := by
  cases e : cntP l with
  | none => rfl
  | some n =>
    obtain ⟨h1, h2⟩ := cntP_iff.1 e
    exact absurd h2.symm (h n h1.1 h1.2)
end Go.Proofs.Ytlahccmlnbdekaa
