/-
  Contract of the document's Get.
-/
import Derived.Test.YtipipjpdlblifaaVFind
namespace Go.Proofs.Ytipipjpdlblifaa
open Go.ChangeShapes Go.WideShapes Go.ChangeAt Go.RowKit
set_option linter.unusedVariables false

end Go.Proofs.Ytipipjpdlblifaa
