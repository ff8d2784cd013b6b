/-
  Contract of Put of an index.
-/
import Derived.Test.YtipipjpdlblifaaEPut2
namespace Go.Proofs.Ytipipjpdlblifaa
open Go.ChangeShapes Go.WideShapes Go.ChangeAt Go.RowKit
set_option linter.unusedVariables false
set_option linter.unusedSimpArgs false

theorem oneK_len (key : ByteArray) (m : List Ver) : (oneK key m).length ≤ 1 := by unfold oneK; split <;> simp
theorem putE_mem {l : List Ent} {key : ByteArray} {m : List Ver} {e : Ent} (h : e ∈ putE l key m) : e ∈ l ∨ (e = ⟨key, m⟩ ∧ m ≠ []) := by
  rw [putE_one] at h
  rcases List.mem_append.1 h with h | h
  · rcases List.mem_append.1 h with h | h
    · exact .inl (List.mem_filter.1 h).1
    · right
      unfold oneK at h
      split at h
      · simp at h
      · rename_i k; exact ⟨by simpa using h, k⟩
  · exact .inl (List.mem_filter.1 h).1
end Go.Proofs.Ytipipjpdlblifaa
