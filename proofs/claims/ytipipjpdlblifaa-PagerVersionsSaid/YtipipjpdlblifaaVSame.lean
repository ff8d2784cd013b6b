/-
  Contract of the document's Same.
-/
import Derived.Test.YtipipjpdlblifaaVLaw
import Derived.Test.YtipipjpdlblifaaDee
namespace Go.Proofs.Ytipipjpdlblifaa
open Go.ChangeShapes Go.WideShapes Go.ChangeAt Go.RowKit
set_option linter.unusedVariables false
set_option linter.unusedSimpArgs false

theorem ver_ne {x y : Ver} (h : x ≠ y) : x.id ≠ y.id ∨ (x.id = y.id ∧ x.data ≠ y.data) ∨ (x.id = y.id ∧ x.data = y.data ∧ x.mark ≠ y.mark) ∨ (x.id = y.id ∧ x.data = y.data ∧ x.mark = y.mark ∧ x.tm ≠ y.tm) := by
  obtain ⟨a, b, c, d⟩ := x
  obtain ⟨a', b', c', d'⟩ := y
  simp only [ne_eq, Ver.mk.injEq, not_and] at h ⊢
  by_cases h1 : a = a'
  · by_cases h2 : b = b'
    · by_cases h3 : c = c'
      · exact .inr (.inr (.inr ⟨h1, h2, h3, h h1 h2 h3⟩))
      · exact .inr (.inr (.inl ⟨h1, h2, h3⟩))
    · exact .inr (.inl ⟨h1, h2⟩)
  · exact .inl h1
theorem list_ne {a b : List Ver} {i : Nat} (h : i < a.length) (k : i < b.length) (n : a[i] ≠ b[i]) : a ≠ b := by
  rintro rfl; exact n rfl

/-- sameP: Same's answer. -/
def sameP (a b : List Ver) (A : Bool) : Prop := (A = true ∧ a = b) ∨ (A = false ∧ a ≠ b)
theorem sameP_yes {a b : List Ver} {A : Bool} (h : sameP a b A) (e : a = b) : A = true := by
  rcases h with ⟨h, -⟩ | ⟨-, h⟩
  · exact h
  · exact absurd e h
theorem sameP_no {a b : List Ver} {A : Bool} (h : sameP a b A) (e : a ≠ b) : A = false := by
  rcases h with ⟨-, h⟩ | ⟨h, -⟩
  · exact absurd h e
  · exact h
end Go.Proofs.Ytipipjpdlblifaa
