/-
  More on boxes of versions, and what Few comes to.
-/
import Derived.Test.YtflfhigldkdlmaaPRef
import Derived.Test.YtflfhigldkdlmaaPAwake
namespace Go.Proofs.Ytflfhigldkdlmaa
open Go.ChangeShapes Go.WideShapes Go.ChangeAt Go.RowKit
set_option linter.unusedVariables false
set_option linter.unusedSimpArgs false

theorem box_set {w w1 : World} {i i' : Int} {d d' : ByteArray} {m m' : Bool} {t t' : Int} (q : Q (w.alloc (.cells #[.int .u64 i, .string d, .bool m, .int .i64 t] 25)) w1) :
    ∀ w2, Q ((((w1.setCell ⟨w.heap.size, 0, none⟩ (.int .u64 i')).setCell ⟨w.heap.size, 1, none⟩ (.string d')).setCell ⟨w.heap.size, 2, none⟩ (.bool m')).setCell ⟨w.heap.size, 3, none⟩ (.int .i64 t')) w2 →
      w2.cell? ⟨w.heap.size, 0, none⟩ = some (.int .u64 i') ∧ w2.cell? ⟨w.heap.size, 1, none⟩ = some (.string d') ∧ w2.cell? ⟨w.heap.size, 2, none⟩ = some (.bool m') ∧ w2.cell? ⟨w.heap.size, 3, none⟩ = some (.int .i64 t') := by
  intro w2 q2
  obtain ⟨b0, b1, b2, b3⟩ := box_of q
  have hlt : w.heap.size < ((((w1.setCell ⟨w.heap.size, 0, none⟩ (.int .u64 i')).setCell ⟨w.heap.size, 1, none⟩ (.string d')).setCell ⟨w.heap.size, 2, none⟩ (.bool m')).setCell ⟨w.heap.size, 3, none⟩ (.int .i64 t')).heap.size := by
    have := q.size
    rw [World.size_alloc] at this
    simp; omega
  have c : ∀ k, w2.cell? ⟨w.heap.size, k, none⟩ = ((((w1.setCell ⟨w.heap.size, 0, none⟩ (.int .u64 i')).setCell ⟨w.heap.size, 1, none⟩ (.string d')).setCell ⟨w.heap.size, 2, none⟩ (.bool m')).setCell ⟨w.heap.size, 3, none⟩ (.int .i64 t')).cell? ⟨w.heap.size, k, none⟩ := fun k => Below.cell q2 (p := ⟨w.heap.size, k, none⟩) hlt
  refine ⟨(c 0).trans ?_, (c 1).trans ?_, (c 2).trans ?_, (c 3).trans ?_⟩ <;> simp [go_sem, b0, b1, b2, b3]
theorem oneV_id (v : Ver) : oneV (oneV v) = oneV v := by
  have := oneV_size v
  conv => lhs; rw [oneV]
  rw [if_neg (by omega)]
theorem few_few (l : List Ver) : fewV (fewV l) = fewV l := by
  have h : (fewV l).length ≤ 21 := by rw [fewV, List.length_map, List.length_take]; omega
  conv => lhs; rw [fewV]
  rw [List.take_of_length_le h, fewV, List.map_map]
  apply List.map_congr_left
  intro x _
  exact oneV_id x
theorem few_len (l : List Ver) : (fewV l).length ≤ 21 := by rw [fewV, List.length_map, List.length_take]; omega
theorem few_okV {l : List Ver} (h : ∀ x ∈ l, okV x) : ∀ x ∈ fewV l, okV x := by
  intro x hx
  rw [fewV, List.mem_map] at hx
  obtain ⟨y, hy, rfl⟩ := hx
  exact oneV_ok (h y (List.mem_of_mem_take hy))
theorem same_any (a : List Ver) (va vb : Value) (w : World) (hl : a.length ≤ 1000) (ha : Vers w w.heap.size va a) (hb : Vers w w.heap.size vb a) :
    Calls Try.prog 16 #[va, vb] w fun e w' => e = .returned (.bool true) ∧ Q w w' := by
  refine (rsame_any a a va vb w true (.inl ⟨rfl, rfl⟩) hl hl ha hb).mono ?_
  rintro e w' ⟨rfl, d⟩
  exact ⟨rfl, d.q⟩
/-- What a law wants of the versions that it looks at. -/
theorem few_all (l : List Ver) (v : Value) (w : World) (hl : l.length ≤ maxLen) (ht : Vers w w.heap.size v l) :
    ∃ L : List Ver, L = fewV l ∧ L.length ≤ 21 ∧ fewV L = L ∧ (∀ x ∈ L, okV x) ∧
      Hid (Calls Try.prog 10 #[v] w fun e w' => ∃ v', e = .returned v' ∧ OwnV w.heap.size w' v' L ∧ Q w w') :=
  ⟨fewV l, rfl, few_len l, few_few l, few_okV ht.okAll, Lib.hid (few_any l v w hl ht)⟩
end Go.Proofs.Ytflfhigldkdlmaa
