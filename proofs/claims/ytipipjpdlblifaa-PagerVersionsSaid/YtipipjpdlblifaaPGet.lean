/-
  Contracts of the program's Get and Find, and of the document's Get.
-/
import Derived.Test.YtipipjpdlblifaaPFind
import Derived.Test.YtipipjpdlblifaaVGet
namespace Go.Proofs.Ytipipjpdlblifaa
open Go.ChangeShapes Go.WideShapes Go.ChangeAt Go.RowKit
set_option linter.unusedVariables false

/-- What is told of a version, or that there is none: its parts and the error's number. -/
theorem findR_parts (o : Option Ver) : ∃ (i : Nat) (d : ByteArray) (m : Bool) (t e : Int), findR o = .tuple #[.agg #[.int .u64 (i : Nat), .string d, .bool m, .int .i64 t], .int .i64 e] := by
  cases o with
  | none => exact ⟨0, ⟨#[]⟩, false, 0, 4, rfl⟩
  | some x => exact ⟨x.id, x.data, x.mark, x.tm, (if x.mark then 13 else 0), rfl⟩
theorem find_idx (l : List Ver) (id : Nat) : (∃ i, ∃ h : i < l.length, idxV (fun x => decide (x.id = id)) l = (i : Nat) ∧ findV l id = some l[i]) ∨ (idxV (fun x => decide (x.id = id)) l = -1 ∧ findV l id = none) := by
  unfold idxV
  cases h : l.findIdx? (fun x => decide (x.id = id)) with
  | some i =>
    left
    rw [List.findIdx?_eq_some_iff_getElem] at h
    obtain ⟨hi, hp, hk⟩ := h
    exact ⟨i, hi, rfl, find_at (fun j hj hl => by simpa using hk j hj) hi (by simpa using hp)⟩
  | none =>
    right
    rw [List.findIdx?_eq_none_iff] at h
    exact ⟨rfl, find_none (fun j hl => by simpa using h _ (List.getElem_mem hl))⟩
end Go.Proofs.Ytipipjpdlblifaa
