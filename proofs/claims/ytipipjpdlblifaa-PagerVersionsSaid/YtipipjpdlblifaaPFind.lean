/-
  Contracts of the program's told, Get and Find, and of the document's Get.
-/
import Derived.Test.YtipipjpdlblifaaPCheck
namespace Go.Proofs.Ytipipjpdlblifaa
open Go.ChangeShapes Go.WideShapes Go.ChangeAt Go.RowKit
set_option linter.unusedVariables false

theorem check_ok (l : List Ver) (v : Value) (w : World) (hR : okP l) (hl : l.length ≤ 1000) (ht : Vers w w.heap.size v l) :
    Calls Try.prog 51 #[v] w fun e w' => e = .returned (.int .i64 0) ∧ Q w w' := check_any l v w true (.inl ⟨rfl, hR⟩) hl ht
theorem check_bad (l : List Ver) (v : Value) (w : World) (hR : ¬ okP l) (hl : l.length ≤ 1000) (ht : Vers w w.heap.size v l) :
    Calls Try.prog 51 #[v] w fun e w' => e = .returned (.int .i64 1) ∧ Q w w' := check_any l v w false (.inr ⟨rfl, hR⟩) hl ht

end Go.Proofs.Ytipipjpdlblifaa
