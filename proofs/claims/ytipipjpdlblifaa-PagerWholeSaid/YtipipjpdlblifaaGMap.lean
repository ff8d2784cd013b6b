/-
  A map of one's own from texts to whether they are in it.
-/
import Derived.Test.YtipipjpdlblifaaGIter
import Derived.Maps.Own
import Derived.Maps.OwnOps
import Derived.Maps.Views
import Derived.StringKeys
namespace Go.Proofs.Ytipipjpdlblifaa
open Go.ChangeShapes Go.WideShapes Go.ChangeAt Go.RowKit
open Go.Maps (Keyed)
set_option linter.unusedVariables false
set_option linter.unusedSimpArgs false

theorem keyedS : Keyed Try.prog 9 := Maps.string_keyed Try.underlying9
/-- Block b is a map that has each of these texts in it. -/
def InM (b n : Nat) (S : List ByteArray) (w : World) : Prop :=
  ∃ D : DataW Unit, w.ownsMap Try.prog 9 (plainElem Try.prog 4) b n D ∧ ∀ s ∈ S, D.atKey (.string s.data.toList) (.lit (.bool false)) = .lit (.bool true)
theorem InM.made (w : World) : InM w.heap.size 0 [] (w.alloc (.map #[] 0)) := ⟨_, World.ownsMap_made w _ _ _, fun s h => by cases h⟩
theorem InM.on {b n : Nat} {S : List ByteArray} {w w' : World} (h : InM b n S w) (q : Q w w') : InM b n S w' := by
  obtain ⟨D, h1, h2⟩ := h
  exact ⟨D, h1.kept q.grown (by simp), h2⟩
theorem InM.get {b n : Nat} {S : List ByteArray} {w : World} (h : InM b n S w) {s : ByteArray} (hs : s ∈ S) (hz : s.size ≤ maxLen) : (Instr.lookup 48 (.map (some b)) (.string s) false).run Try.prog w = .ok (.bool true) w := by
  obtain ⟨D, h1, h2⟩ := h
  obtain ⟨v, ps, hrun, hv⟩ := h1.lookup keyedS Try.underlying48 (z := .bool false) (by rfl) (plainElem_bool Try.underlying4 false) (WideMaps.keyOf_string_mk Try.underlying9 hz)
  rw [h2 s hs] at hv
  have : v = .bool true := by
    unfold plainElem at hv
    rw [Try.underlying4] at hv
    cases v <;> simp at hv
    rw [hv.1]
  rw [hrun, this]
/-- 'in[s] = true' at the operation. -/
theorem wpList_inM_put {w : World} {ops : Array Oper} {rest : List Oper} {o : Oper} {a : Act} {Z : Exit → Act → World → Prop} {b n : Nat} {S : List ByteArray}
    (h : InM b n S w) (hg : o.guard = none) (m x v : Operand) (hop : o.op = Op.mapUpdate 48 m x v) (hn : n ≤ 1000000) (s : ByteArray) (hz : s.size ≤ 1000)
    (hm : a.eval m = .map (some b)) (hx : a.eval x = .string s) (hv : a.eval v = .bool true)
    (hK : ∀ w', InM b (n + 1) (S ++ [s]) w' → w.grownBy w' (some b) → wpList Try.prog ops Z rest (a.put o.dst undef) w') :
    wpList Try.prog ops Z (o :: rest) a w := by
  obtain ⟨D, h1, h2⟩ := h
  refine wpList_mapUpdate_own w hg m x v 48 hop 9 4 keyedS Try.underlying48 _ b n D hm h1 (by unfold maxLen; omega) (.string s) (.bool true) (.string s.data.toList) hx hv
    (WideMaps.keyOf_string_mk Try.underlying9 (by unfold maxLen; omega)) (.lit (.bool true)) [] (plainElem_bool Try.underlying4 true) fun w' o' g => ?_
  refine hK w' ⟨_, o', fun t ht => ?_⟩ g
  obtain ⟨es, clock, hb, F, hs, hD⟩ := h1
  by_cases e : (Lit.string t.data.toList) = (Lit.string s.data.toList)
  · rw [e]; exact Maps.atKey_put_same ⟨_, hD⟩ (by simp [WideAt.IsKeyLit]) _ _
  · rw [Maps.atKey_put_other e]
    refine h2 t ?_
    rcases List.mem_append.1 ht with ht | ht
    · exact ht
    · obtain rfl : t = s := by simpa using ht
      exact absurd rfl e
/-- What is there stays there while one's own map is written. -/
theorem Q.mapped {w0 w w' : World} {b : Nat} (q : Q w0 w) (g : w.grownBy w' (some b)) (hb : w0.heap.size ≤ b) : Q w0 w' :=
  Below.grown q g q.size (fun k e => by cases e; exact hb)
end Go.Proofs.Ytipipjpdlblifaa
