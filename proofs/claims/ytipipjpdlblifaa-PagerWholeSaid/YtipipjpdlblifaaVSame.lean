/-
  Contract of the document's Same.
-/
import Derived.Test.YtipipjpdlblifaaVLaw
namespace Go.Proofs.Ytipipjpdlblifaa
open Go.ChangeShapes Go.WideShapes Go.ChangeAt Go.RowKit
set_option linter.unusedVariables false
set_option linter.unusedSimpArgs false

/-- Nothing but the tape has gone on. -/
def D (w w' : World) : Prop := ∃ m, w' = w.drewN m
theorem D.refl (w : World) : D w w := ⟨0, rfl⟩
theorem D.drew {a b : World} (h : D a b) : D a b.drew := by obtain ⟨m, rfl⟩ := h; exact ⟨m + 1, rfl⟩
theorem D.drewN {a b : World} (h : D a b) (n : Nat) : D a (b.drewN n) := by obtain ⟨m, rfl⟩ := h; exact ⟨m + n, World.drewN_drewN _ _ _⟩
theorem D.q {a b : World} (h : D a b) : Q a b := by obtain ⟨m, rfl⟩ := h; exact (Q.refl a).drewN m

theorem ver_ne {x y : Ver} (h : x ≠ y) : x.id ≠ y.id ∨ (x.id = y.id ∧ x.data ≠ y.data) ∨ (x.id = y.id ∧ x.data = y.data ∧ x.mark ≠ y.mark) ∨ (x.id = y.id ∧ x.data = y.data ∧ x.mark = y.mark ∧ x.tm ≠ y.tm) := by
  obtain ⟨a, b, c, d⟩ := x
  obtain ⟨a', b', c', d'⟩ := y
  simp only [ne_eq, Ver.mk.injEq, not_and] at h ⊢
  by_cases h1 : a = a'
  · by_cases h2 : b = b'
    · by_cases h3 : c = c'
      · exact .inr (.inr (.inr ⟨h1, h2, h3, h h1 h2 h3⟩))
      · exact .inr (.inr (.inl ⟨h1, h2, h3⟩))
    · exact .inr (.inl ⟨h1, h2⟩)
  · exact .inl h1
theorem list_ne {a b : List Ver} {i : Nat} (h : i < a.length) (k : i < b.length) (n : a[i] ≠ b[i]) : a ≠ b := by
  rintro rfl; exact n rfl

/-- sameP: Same's answer. -/
def sameP (a b : List Ver) (A : Bool) : Prop := (A = true ∧ a = b) ∨ (A = false ∧ a ≠ b)
theorem sameP_yes {a b : List Ver} {A : Bool} (h : sameP a b A) (e : a = b) : A = true := by
  rcases h with ⟨h, -⟩ | ⟨-, h⟩
  · exact h
  · exact absurd e h
theorem sameP_no {a b : List Ver} {A : Bool} (h : sameP a b A) (e : a ≠ b) : A = false := by
  rcases h with ⟨-, h⟩ | ⟨h, -⟩
  · exact absurd h e
  · exact h
end Go.Proofs.Ytipipjpdlblifaa
