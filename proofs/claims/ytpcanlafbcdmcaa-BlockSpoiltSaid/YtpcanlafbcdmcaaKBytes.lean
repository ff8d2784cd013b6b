/-
  Octets of a text as a slice, one of them turned, and back.
-/
import Derived.Test.YtpcanlafbcdmcaaKAwk
import Derived.Lib.ConvBytes
import Derived.Lib.SmallJoins
namespace Go.Proofs.Ytpcanlafbcdmcaa
set_option maxRecDepth 100000
open Go.ChangeShapes Go.WideShapes Go.ChangeAt Go.RowKit
set_option linter.unusedVariables false

theorem conv_bytes (D : ByteArray) (w : World) : ∃ W cap, (convert 9 45 (.string D)).run Try.prog w = .ok (.slice (some ⟨w.heap.size, 0, none⟩) D.size cap) W ∧ D.size ≤ cap ∧ Q w W ∧ W.heap.size = w.heap.size + 1 ∧
    (∀ j (h : j < D.size), W.cell? ⟨w.heap.size, j, none⟩ = some (.int .u8 (D[j].toNat : Nat))) ∧ (∀ j, j < D.size → W.frozen? ⟨w.heap.size, j, none⟩ = false) := by
  refine ⟨_, _, Lib.run_convert_string_bytes w 9 45 5 D Try.underlying9 Try.underlying45 Try.underlying5, grownCap_ge _ _ _ _, Joins.below_bytesWorld _ _ _ _ (Nat.le_refl _), Lib.bytesWorld_size _ _ _, ?_, ?_⟩
  · intro j h
    rw [Lib.bytesWorld_cell w 5 D j h]
    have : D.data.toList.getD j 0 = D[j] := by
      rw [List.getD_eq_getElem?_getD, List.getElem?_eq_getElem (by simpa using h), Option.getD_some]; rfl
    rw [this]
  · intro j h
    have hs : D.size ≤ (Lib.bytesCells w 5 D).size := by simp [Lib.bytesCells]
    simp only [World.frozen?, Lib.bytesWorld_at_new]
    have : ¬ (Lib.bytesCells w 5 D).size ≤ j := by omega
    simp [this]
/-- A text with one octet another one. -/
def setO (D : ByteArray) (i : Nat) (y : UInt8) : ByteArray := mk ((bl D).set i y)
theorem setO_size (D : ByteArray) (i : Nat) (y : UInt8) : (setO D i y).size = D.size := by rw [setO, mk_size, List.length_set, bl_length]
theorem setO_ne {D : ByteArray} {i : Nat} (h : i < D.size) {y : UInt8} (hy : y ≠ D[i]) : setO D i y ≠ D := by
  intro e
  have h' : i < (bl D).length := by rw [bl_length]; exact h
  have e2 := congrArg bl e
  rw [setO, bl_mk] at e2
  have e3 : ((bl D).set i y)[i]? = (bl D)[i]? := by rw [e2]
  rw [List.getElem?_set_self h', List.getElem?_eq_getElem h'] at e3
  injection e3 with e3
  exact hy e3
theorem conv_set (D : ByteArray) (w W : World) (cap i : Nat) (y : UInt8) (hi : i < D.size) (hW : W.heap.size = w.heap.size + 1)
    (hc : ∀ j (h : j < D.size), W.cell? ⟨w.heap.size, j, none⟩ = some (.int .u8 (D[j].toNat : Nat))) (V : World) (hV : ∀ p, V.cell? p = (W.setCell ⟨w.heap.size, i, none⟩ (.int .u8 (y.toNat : Nat))).cell? p) :
    (convert 45 9 (.slice (some ⟨w.heap.size, 0, none⟩) D.size cap)).run Try.prog V = .ok (.string (setO D i y)) V := by
  have hl : ((bl D).set i y).length = D.size := by rw [List.length_set, bl_length]
  have := run_convert_bytes_back (P := Try.prog) V 45 9 5 ⟨w.heap.size, 0, none⟩ cap ((bl D).set i y) Try.underlying45 Try.underlying5 Try.underlying9 (by
    intro j hj
    rw [hl] at hj
    have ea : (⟨w.heap.size, 0, none⟩ : Addr).add j = ⟨w.heap.size, j, none⟩ := by simp only [Addr.add]; split <;> simp_all
    rw [ea, hV, List.getElem_set]
    by_cases hij : i = j
    · subst hij
      rw [if_pos rfl]
      exact World.cell?_setCell_same _ _ _ (hc i hj)
    · rw [if_neg hij, World.cell?_setCell_other _ _ _ _ (fun e => hij (by injection e))]
      exact hc j hj)
  rw [hl] at this
  exact this
end Go.Proofs.Ytpcanlafbcdmcaa
