/-
  Contract of the document's Check.
-/
import Derived.Test.YtjjlbbfhmpbneaaGreatKa
import Derived.Deep.RegionHeld3
namespace Go.Proofs.YtjjlbbfhmpbneaaGreat
set_option maxRecDepth 100000
open Go.ChangeShapes Go.WideShapes Go.ChangeAt Go.RowKit
set_option linter.unusedVariables false
set_option linter.unusedSimpArgs false
/-- Two versions whose IDs may not follow each other: x is ahead of y. -/
def pairBad (x y : Ver) : Bool := if y.id = 0 then decide (x.id = 0) else if x.id = 0 then false else decide (x.id ≤ y.id)
def pairsTo (l : List Ver) (i n : Nat) : Prop := ∀ k (hi : i < l.length) (hk : k < n) (hk' : k < l.length), pairBad l[k] l[i] = false
def tmOk (l : List Ver) (i : Nat) : Prop := ∀ j (hj : j + 1 = i) (h : i < l.length), ¬ (l[j].tm < l[i].tm)
def stepOk (l : List Ver) (i : Nat) : Prop := (∀ h : i < l.length, mayV l[i] = true) ∧ tmOk l i ∧ pairsTo l i i
def okP (l : List Ver) : Prop := l.length ≤ 20 ∧ ∀ i, stepOk l i
def chkP (l : List Ver) (R : Bool) : Prop := (R = true ∧ okP l) ∨ (R = false ∧ ¬ okP l)
theorem chkP_ex (l : List Ver) : ∃ R, chkP l R := by
  by_cases h : okP l
  · exact ⟨true, .inl ⟨rfl, h⟩⟩
  · exact ⟨false, .inr ⟨rfl, h⟩⟩
theorem chkP_no {l : List Ver} {R : Bool} (h : chkP l R) (k : ¬ okP l) : R = false := by
  rcases h with ⟨-, h⟩ | ⟨h, -⟩
  · exact absurd h k
  · exact h
theorem chkP_yes {l : List Ver} {R : Bool} (h : chkP l R) (k : okP l) : R = true := by
  rcases h with ⟨h, -⟩ | ⟨-, h⟩
  · exact h
  · exact absurd k h
theorem step_end {l : List Ver} {i : Nat} (h : l.length ≤ i) : stepOk l i := ⟨fun k => by omega, fun j hj k => by omega, fun k hi => by omega⟩
theorem chk_end {l : List Ver} {R : Bool} (h : chkP l R) (k : ∀ j, j < l.length → stepOk l j) : R = decide (l.length ≤ 20) := by
  have hall : ∀ i, stepOk l i := fun i => by
    by_cases hi : i < l.length
    · exact k i hi
    · exact step_end (by omega)
  by_cases h20 : l.length ≤ 20
  · rw [chkP_yes h ⟨h20, hall⟩]; simp [h20]
  · rw [chkP_no h (fun o => h20 o.1)]; simp [h20]
end Go.Proofs.YtjjlbbfhmpbneaaGreat

