/-
  Contracts of place, both Get, and slices.Clone of versions.
-/
import Derived.Test.YtipipjpdlblifaaERead
import Derived.Shelf.Abstract
namespace Go.Proofs.Ytipipjpdlblifaa
open Go.ChangeShapes Go.WideShapes Go.ChangeAt Go.RowKit
set_option linter.unusedVariables false
set_option linter.unusedSimpArgs false

/-- The place of the first of which p tells yes; below 0, if there is none. -/
def idxL {α : Type} (p : α → Bool) (l : List α) : Int := match l.findIdx? p with
  | some i => (i : Nat)
  | none => -1
theorem idxL_hit {α : Type} {p : α → Bool} {l : List α} {i : Nat} (hl : i < l.length) (h : p l[i] = true) (k : ∀ j (hj : j < i) (hl : j < l.length), p l[j] = false) : idxL p l = i := by
  have : l.findIdx? p = some i := by
    rw [List.findIdx?_eq_some_iff_getElem]
    exact ⟨hl, h, fun j hj => by rw [k j hj (by omega)]; simp⟩
  rw [idxL, this]
theorem idxL_none {α : Type} {p : α → Bool} {l : List α} (k : ∀ j (hl : j < l.length), p l[j] = false) : idxL p l = -1 := by
  have : l.findIdx? p = none := by
    rw [List.findIdx?_eq_none_iff]
    intro x hx
    obtain ⟨j, hj, rfl⟩ := List.getElem_of_mem hx
    exact k j hj
  rw [idxL, this]
/-- Where a key is: nowhere, or at its first entry. -/
def hasK' (key : ByteArray) : Ent → Bool := fun e => decide (e.key = key)
theorem where_key (l : List Ent) (key : ByteArray) : (idxL (hasK' key) l = -1 ∧ ∀ j (hl : j < l.length), l[j].key ≠ key) ∨
    ∃ i, ∃ h : i < l.length, idxL (hasK' key) l = i ∧ l[i].key = key ∧ ∀ j (hj : j < i) (hl : j < l.length), l[j].key ≠ key := by
  cases h : l.findIdx? (hasK' key) with
  | some i =>
    right
    obtain ⟨hi, hp, hk⟩ := List.findIdx?_eq_some_iff_getElem.1 h
    refine ⟨i, hi, by rw [idxL, h], by simpa [hasK'] using hp, fun j hj hl => ?_⟩
    have := hk j hj
    simpa [hasK'] using this
  | none =>
    left
    refine ⟨by rw [idxL, h], fun j hl => ?_⟩
    have := List.findIdx?_eq_none_iff.1 h _ (List.getElem_mem hl)
    simpa [hasK'] using this
/-- A key's versions. -/
def getE (l : List Ent) (key : ByteArray) : List Ver := match l.find? (hasK' key) with
  | some e => e.L
  | none => []
theorem getE_at {l : List Ent} {key : ByteArray} {i : Nat} (hi : i < l.length) (k : l[i].key = key) (h : ∀ j (hj : j < i) (hl : j < l.length), l[j].key ≠ key) : getE l key = l[i].L := by
  have : l.find? (hasK' key) = some l[i] := by
    rw [List.find?_eq_some_iff_getElem]
    exact ⟨by simp [hasK', k], i, hi, rfl, fun j hj => by simpa [hasK'] using h j hj (by omega)⟩
  rw [getE, this]
theorem getE_none {l : List Ent} {key : ByteArray} (h : ∀ j (hl : j < l.length), l[j].key ≠ key) : getE l key = [] := by
  have : l.find? (hasK' key) = none := by
    rw [List.find?_eq_none]
    intro x hx
    obtain ⟨j, hj, rfl⟩ := List.getElem_of_mem hx
    simpa [hasK'] using h j hj
  rw [getE, this]
theorem key_ne {a b : ByteArray} (h : a ≠ b) : (a.toList == b.toList) = false := by rw [eq_texts]; simpa using h
theorem key_eq (a : ByteArray) : (a.toList == a.toList) = true := by simp

end Go.Proofs.Ytipipjpdlblifaa
