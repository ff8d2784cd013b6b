/-
  Contract of the document's Get.
-/
import Derived.Test.YteggmlefekpkfaaVFind
namespace Go.Proofs.Yteggmlefekpkfaa
open Go.ChangeShapes Go.WideShapes Go.ChangeAt Go.RowKit
set_option linter.unusedVariables false

end Go.Proofs.Yteggmlefekpkfaa
