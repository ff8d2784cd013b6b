/-
  Contract of the document's May.
-/
import Derived.Test.YtjjlbbfhmpbneaaGreatKi
import Derived.Deep.RegionHeld3
namespace Go.Proofs.YtjjlbbfhmpbneaaGreat
set_option maxRecDepth 100000
open Go.ChangeShapes Go.WideShapes Go.ChangeAt Go.RowKit
set_option linter.unusedVariables false
set_option linter.unusedSimpArgs false
end Go.Proofs.YtjjlbbfhmpbneaaGreat

