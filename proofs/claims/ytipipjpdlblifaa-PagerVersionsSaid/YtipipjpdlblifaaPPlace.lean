/-
  Contracts of slices.IndexFunc, slices.ContainsFunc and place.
-/
import Derived.Test.YtipipjpdlblifaaPMay
import Derived.Shelf.Abstract
namespace Go.Proofs.Ytipipjpdlblifaa
open Go.ChangeShapes Go.WideShapes Go.ChangeAt Go.RowKit
set_option linter.unusedVariables false

/-- The place of the first version of which p tells yes; below 0, if there is none. -/
def idxV (p : Ver → Bool) (l : List Ver) : Int := match l.findIdx? p with
  | some i => (i : Nat)
  | none => -1
theorem idxV_hit {p : Ver → Bool} {l : List Ver} {i : Nat} (hl : i < l.length) (h : p l[i] = true) (k : ∀ j (hj : j < i) (hl : j < l.length), p l[j] = false) : idxV p l = i := by
  have : l.findIdx? p = some i := by
    rw [List.findIdx?_eq_some_iff_getElem]
    exact ⟨hl, h, fun j hj => by rw [k j hj (by omega)]; simp⟩
  rw [idxV, this]
theorem idxV_none {p : Ver → Bool} {l : List Ver} (k : ∀ j (hl : j < l.length), p l[j] = false) : idxV p l = -1 := by
  have : l.findIdx? p = none := by
    rw [List.findIdx?_eq_none_iff]
    intro x hx
    obtain ⟨j, hj, rfl⟩ := List.getElem_of_mem hx
    exact k j hj
  rw [idxV, this]
theorem idxV_sign (p : Ver → Bool) (l : List Ver) : (0 ≤ idxV p l) ↔ l.any p = true := by
  unfold idxV
  cases h : l.findIdx? p with
  | some i =>
    rw [List.findIdx?_eq_some_iff_getElem] at h
    obtain ⟨hi, hp, -⟩ := h
    refine ⟨fun _ => List.any_eq_true.2 ⟨_, List.getElem_mem hi, hp⟩, fun _ => by simp⟩
  | none =>
    rw [List.findIdx?_eq_none_iff] at h
    refine ⟨fun k => by simp at k, fun k => ?_⟩
    obtain ⟨x, hx, hp⟩ := List.any_eq_true.1 k
    rw [h x hx] at hp; simp at hp
end Go.Proofs.Ytipipjpdlblifaa
