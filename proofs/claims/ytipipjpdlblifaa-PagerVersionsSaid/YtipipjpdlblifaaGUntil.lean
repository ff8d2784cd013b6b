/-
  Of stage 7: a region that loads cells into which it stores (Until).
-/
import Derived.Test.YtipipjpdlblifaaGBox
import Derived.Test.YtipipjpdlblifaaUntil
namespace Go.Proofs.Ytipipjpdlblifaa
end Go.Proofs.Ytipipjpdlblifaa
