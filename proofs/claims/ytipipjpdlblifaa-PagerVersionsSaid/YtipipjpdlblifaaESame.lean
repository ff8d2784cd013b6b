/-
  Contracts of the document's Same and of the program's.
-/
import Derived.Test.YtipipjpdlblifaaEFind
namespace Go.Proofs.Ytipipjpdlblifaa
open Go.ChangeShapes Go.WideShapes Go.ChangeAt Go.RowKit
set_option linter.unusedVariables false
set_option linter.unusedSimpArgs false

theorem D.step {a b c : World} (h : D a b) (k : D b c) : D a c := by
  obtain ⟨m, rfl⟩ := h
  obtain ⟨n, rfl⟩ := k
  exact ⟨m + n, World.drewN_drewN _ _ _⟩
theorem quiet_dm {P : Program} {f : FuncId} {args : Array Value} {w : World} {m n : Nat} {v : Value}
    (h : Calls P f args (w.drewN (m + n)) fun e w' => e = .returned v ∧ D (w.drewN (m + n)) w') : Calls P f args (w.drewN (m + n)) fun e w'' => e = .returned v ∧ ∃ k, w'' = w.drewN (m + k) :=
  h.mono fun _ _ ⟨he, k, hk⟩ => ⟨he, n + k, by rw [hk, World.drewN_drewN, Nat.add_assoc]⟩
theorem ent_ext {x y : Ent} (h : x.key = y.key) (k : x.L = y.L) : x = y := by
  cases x; cases y; simp only at h k; rw [h, k]
theorem entL_ne {a b : List Ent} {i : Nat} (h : i < a.length) (k : i < b.length) (n : a[i] ≠ b[i]) : a ≠ b := by
  rintro rfl; exact n rfl
/-- Same's answer. -/
def sameEP (a b : List Ent) (R : Bool) : Prop := (R = true ∧ a = b) ∨ (R = false ∧ a ≠ b)
theorem sameEP_ex (a b : List Ent) : ∃ R, sameEP a b R := by
  by_cases h : a = b
  · exact ⟨true, .inl ⟨rfl, h⟩⟩
  · exact ⟨false, .inr ⟨rfl, h⟩⟩
theorem sameEP_yes {a b : List Ent} {A : Bool} (h : sameEP a b A) (e : a = b) : A = true := by
  rcases h with ⟨h, -⟩ | ⟨-, h⟩
  · exact h
  · exact absurd e h
theorem sameEP_no {a b : List Ent} {A : Bool} (h : sameEP a b A) (e : a ≠ b) : A = false := by
  rcases h with ⟨-, h⟩ | ⟨h, -⟩
  · exact absurd h e
  · exact h
theorem sameP_ex (a b : List Ver) : ∃ R, sameP a b R := by
  by_cases h : a = b
  · exact ⟨true, .inl ⟨rfl, h⟩⟩
  · exact ⟨false, .inr ⟨rfl, h⟩⟩
end Go.Proofs.Ytipipjpdlblifaa
