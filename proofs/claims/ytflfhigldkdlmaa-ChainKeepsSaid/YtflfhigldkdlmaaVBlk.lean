/-
  Boxes of versions as whole blocks.
-/
import Derived.Test.YtflfhigldkdlmaaVBox
namespace Go.Proofs.Ytflfhigldkdlmaa
open Go.ChangeShapes Go.WideShapes Go.ChangeAt Go.RowKit
set_option linter.unusedVariables false
set_option linter.unusedSimpArgs false

theorem blk_cell {wx w1 : World} {g : Nat} {i : Int} {d : ByteArray} {m : Bool} {t : Int} (h : wx.heap[g]? = some (.cells #[.int .u64 i, .string d, .bool m, .int .i64 t] 25)) (q : Q wx w1) :
    w1.cell? ⟨g, 0, none⟩ = some (.int .u64 i) ∧ w1.cell? ⟨g, 1, none⟩ = some (.string d) ∧ w1.cell? ⟨g, 2, none⟩ = some (.bool m) ∧ w1.cell? ⟨g, 3, none⟩ = some (.int .i64 t) := by
  have hb : w1.heap[g]? = some (.cells #[.int .u64 i, .string d, .bool m, .int .i64 t] 25) := (Below.block q g (lt_of_block h)).trans h
  refine ⟨?_, ?_, ?_, ?_⟩ <;> simp [World.cell?, hb]
theorem blk_free {wx w1 : World} {g : Nat} {i : Int} {d : ByteArray} {m : Bool} {t : Int} (h : wx.heap[g]? = some (.cells #[.int .u64 i, .string d, .bool m, .int .i64 t] 25)) (q : Q wx w1) :
    w1.frozen? ⟨g, 0, none⟩ = false ∧ w1.frozen? ⟨g, 1, none⟩ = false ∧ w1.frozen? ⟨g, 2, none⟩ = false ∧ w1.frozen? ⟨g, 3, none⟩ = false := by
  have hb : w1.heap[g]? = some (.cells #[.int .u64 i, .string d, .bool m, .int .i64 t] 25) := (Below.block q g (lt_of_block h)).trans h
  refine ⟨?_, ?_, ?_, ?_⟩ <;> simp [World.frozen?, hb]
theorem blk_step {w : World} {g k : Nat} {c : Array Value} {u : Value} {t : TypeId} (h : w.heap[g]? = some (.cells c t (0, 0))) : (w.setCell ⟨g, k, none⟩ u).heap[g]? = some (.cells (c.setIfInBounds k u) t (0, 0)) := by
  have hlt := lt_of_block h
  have h' : w.heap[g] = .cells c t (0, 0) := by simpa [Array.getElem?_eq_getElem hlt] using h
  show (w.heap.modify g _)[g]? = _
  rw [Array.getElem?_eq_getElem (by simpa using hlt), Array.getElem_modify_self, h']
  rfl
theorem blk_set {w : World} {g : Nat} {i i' : Int} {d d' : ByteArray} {m m' : Bool} {t t' : Int} (h : w.heap[g]? = some (.cells #[.int .u64 i, .string d, .bool m, .int .i64 t] 25)) :
    ((((w.setCell ⟨g, 0, none⟩ (.int .u64 i')).setCell ⟨g, 1, none⟩ (.string d')).setCell ⟨g, 2, none⟩ (.bool m')).setCell ⟨g, 3, none⟩ (.int .i64 t')).heap[g]? = some (.cells #[.int .u64 i', .string d', .bool m', .int .i64 t'] 25) :=
  blk_step (k := 3) (blk_step (k := 2) (blk_step (k := 1) (blk_step (k := 0) h)))
theorem OwnV.setAt {base : Nat} {w : World} {v : Value} {l : List Ver} (h : OwnV base w v l) {g k : Nat} {u : Value} (hg : g < base) : OwnV base (w.setCell ⟨g, k, none⟩ u) v l := by
  obtain ⟨o1, o2⟩ := h
  refine ⟨o1, ?_⟩
  rcases o2 with h | ⟨g', cap, cur, e, hb, hh, r⟩
  · exact .inl h
  · refine .inr ⟨g', cap, cur, e, hb, ?_, r⟩
    show (w.heap.modify g _)[g']? = _
    rw [Array.getElem?_modify, if_neg (by omega)]
    exact hh
/-- The block that a box is. -/
theorem blk_of {w w1 : World} {i : Int} {d : ByteArray} {m : Bool} {t : Int} (q : Q (w.alloc (.cells #[.int .u64 i, .string d, .bool m, .int .i64 t] 25)) w1) :
    w1.heap[w.heap.size]? = some (.cells #[.int .u64 i, .string d, .bool m, .int .i64 t] 25) :=
  (Below.block q w.heap.size (by simp)).trans (heap_alloc_new w _)
end Go.Proofs.Ytflfhigldkdlmaa
