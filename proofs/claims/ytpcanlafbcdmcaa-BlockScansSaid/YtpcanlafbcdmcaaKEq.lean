/-
  Last octets held against each other.
-/
import Derived.Test.YtpcanlafbcdmcaaCore
import Derived.Laws.StructEq
namespace Go.Proofs.Ytpcanlafbcdmcaa
set_option maxRecDepth 100000
open Go.ChangeShapes Go.WideShapes Go.ChangeAt Go.RowKit
set_option linter.unusedVariables false
set_option linter.unusedSimpArgs false
set_option maxRecDepth 100000

theorem eq_end (w : World) (a0 a1 a2 a3 b0 b1 b2 b3 : Int) : (Op.equalIn 10000 55 (.agg #[.int .u8 a0, .int .u8 a1, .int .u8 a2, .int .u8 a3]) (.agg #[.int .u8 b0, .int .u8 b1, .int .u8 b2, .int .u8 b3])).run Try.prog w = .ok (a0 == b0 && a1 == b1 && a2 == b2 && a3 == b3) w := by
  have hu : Try.prog.underlying 55 = some (.array 4 5) := by kernel_rfl
  have hs : (sizeOf 5).run Try.prog w = .ok 1 w := by kernel_rfl
  have hi := fun (a b : Int) => run_equalIn_int (P := Try.prog) w 9998 5 .u8 .u8 a b Try.underlying5
  rw [show (10000 : Nat) = 9998 + 1 + 1 by rfl, Op.equalIn]
  have hg : (isAgg 5).run Try.prog w = .ok false w := by kernel_rfl
  have hr : List.range' 0 4 = [0, 1, 2, 3] := rfl
  have hi2 : ∀ (a b : Int), (Op.equalIn 9999 5 (.int .u8 a) (.int .u8 b)).run Try.prog w = .ok (a == b) w := hi
  simp [run_underlying hu, hs, part, hr, hg, hi2]
  cases h0 : a0 == b0 <;> cases h1 : a1 == b1 <;> cases h2 : a2 == b2 <;> cases h3 : a3 == b3 <;> simp_all
end Go.Proofs.Ytpcanlafbcdmcaa
