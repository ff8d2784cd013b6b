/-
  Worlds of which nothing but the tape has gone on.
-/
import Derived.Test.YtpcanlafbcdmcaaCore
namespace Go.Proofs.Ytpcanlafbcdmcaa
set_option maxRecDepth 100000
open Go.ChangeShapes Go.WideShapes Go.ChangeAt Go.RowKit
set_option linter.unusedVariables false

/-- Nothing but the tape has gone on. -/
def D (w w' : World) : Prop := ∃ m, w' = w.drewN m
theorem D.refl (w : World) : D w w := ⟨0, rfl⟩
theorem D.drew {a b : World} (h : D a b) : D a b.drew := by obtain ⟨m, rfl⟩ := h; exact ⟨m + 1, rfl⟩
theorem D.drewN {a b : World} (h : D a b) (n : Nat) : D a (b.drewN n) := by obtain ⟨m, rfl⟩ := h; exact ⟨m + n, World.drewN_drewN _ _ _⟩
theorem D.trans {a b c : World} (h : D a b) (k : D b c) : D a c := by obtain ⟨m, rfl⟩ := h; obtain ⟨n, rfl⟩ := k; exact ⟨m + n, World.drewN_drewN _ _ _⟩
theorem D.q {a b : World} (h : D a b) : Q a b := by obtain ⟨m, rfl⟩ := h; exact (Q.refl a).drewN m
theorem quiet_left {P : Program} {f : FuncId} {args : Array Value} {w : World} {n : Nat} {v : Value}
    (h : Calls P f args (w.drewN n) fun e w' => e = .returned v ∧ w.drewN n = w') : Calls P f args (w.drewN n) fun e w'' => e = .returned v ∧ ∃ m, w'' = w.drewN m :=
  h.mono fun _ _ ⟨he, hm⟩ => ⟨he, n, hm.symm⟩
end Go.Proofs.Ytpcanlafbcdmcaa
