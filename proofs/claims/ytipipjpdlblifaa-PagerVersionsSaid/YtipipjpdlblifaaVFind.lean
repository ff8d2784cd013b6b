/-
  Contracts of the document's Drop and Find.
-/
import Derived.Test.YtipipjpdlblifaaVCheck
namespace Go.Proofs.Ytipipjpdlblifaa
open Go.ChangeShapes Go.WideShapes Go.ChangeAt Go.RowKit
set_option linter.unusedVariables false

theorem own_len {base : Nat} {w : World} {v : Value} {l : List Ver} (h : OwnV base w v l) : ∃ A c, v = .slice A l.length c := by
  rcases h.2 with ⟨rfl, h0⟩ | ⟨g, cap, cur, rfl, -⟩
  · exact ⟨none, 0, by rw [h0]⟩
  · exact ⟨_, _, rfl⟩
/-- What Find tells. -/
def zeroV : Value := .agg #[.int .u64 0, .string ⟨#[]⟩, .bool false, .int .i64 0]
def findV (l : List Ver) (id : Nat) : Option Ver := l.find? fun x => decide (x.id = id)
theorem find_at {l : List Ver} {id i : Nat} (h : ∀ j (hj : j < i) (hl : j < l.length), l[j].id ≠ id) (hi : i < l.length) (k : l[i].id = id) : findV l id = some l[i] := by
  induction l generalizing i with
  | nil => simp at hi
  | cons x r ih =>
    cases i with
    | zero => rw [findV, List.find?_cons_of_pos (by simpa using k)]; rfl
    | succ i =>
      have h0 := h 0 (by omega) (by simp)
      rw [findV, List.find?_cons_of_neg (by simpa using h0)]
      exact ih (fun j hj hl => h (j + 1) (by omega) (by simpa using hl)) (by simpa using hi) k
theorem find_none {l : List Ver} {id : Nat} (h : ∀ j (hl : j < l.length), l[j].id ≠ id) : findV l id = none := by
  rw [findV, List.find?_eq_none]
  intro x hx
  obtain ⟨j, hj, rfl⟩ := List.getElem_of_mem hx
  simpa using h j hj
def findR (o : Option Ver) : Value := match o with
  | some x => .tuple #[ver x, .int .i64 (if x.mark then 13 else 0)]
  | none => .tuple #[zeroV, .int .i64 4]
/-- The cells of a version that a call has made ahead. -/
theorem zero_of {w w1 : World} (q : Q (w.alloc (.cells #[.int .u64 0, .string ⟨#[]⟩, .bool false, .int .i64 0] 63)) w1) :
    w1.cell? ⟨w.heap.size, 0, none⟩ = some (.int .u64 0) ∧ w1.cell? ⟨w.heap.size, 1, none⟩ = some (.string ⟨#[]⟩) ∧ w1.cell? ⟨w.heap.size, 2, none⟩ = some (.bool false) ∧ w1.cell? ⟨w.heap.size, 3, none⟩ = some (.int .i64 0) ∧
    w1.frozen? ⟨w.heap.size, 0, none⟩ = false ∧ w1.frozen? ⟨w.heap.size, 1, none⟩ = false ∧ w1.frozen? ⟨w.heap.size, 2, none⟩ = false ∧ w1.frozen? ⟨w.heap.size, 3, none⟩ = false := by
  have c : ∀ k, w1.cell? ⟨w.heap.size, k, none⟩ = (w.alloc (.cells #[.int .u64 0, .string ⟨#[]⟩, .bool false, .int .i64 0] 63)).cell? ⟨w.heap.size, k, none⟩ := fun k => Below.cell q (p := ⟨w.heap.size, k, none⟩) (by simp)
  have f : ∀ k, w1.frozen? ⟨w.heap.size, k, none⟩ = (w.alloc (.cells #[.int .u64 0, .string ⟨#[]⟩, .bool false, .int .i64 0] 63)).frozen? ⟨w.heap.size, k, none⟩ := fun k => Below.frozen q (p := ⟨w.heap.size, k, none⟩) (by simp)
  refine ⟨(c 0).trans ?_, (c 1).trans ?_, (c 2).trans ?_, (c 3).trans ?_, (f 0).trans ?_, (f 1).trans ?_, (f 2).trans ?_, (f 3).trans ?_⟩ <;> simp [go_sem]
end Go.Proofs.Ytipipjpdlblifaa
