/-
  Slices of texts with what they have room for; cut ahead and behind.
-/
import Derived.Test.YtpcanlafbcdmcaaCore
namespace Go.Proofs.Ytpcanlafbcdmcaa
set_option maxRecDepth 100000
open Go.ChangeShapes Go.WideShapes Go.ChangeAt Go.RowKit
set_option linter.unusedVariables false
set_option linter.unusedSimpArgs false

/-- A slice of these texts, with room. -/
def Tcs (w : World) (B : Nat) (v : Value) (l : List ByteArray) : Prop := Txts w B v l ∧ ∃ A c, v = .slice A l.length c ∧ l.length ≤ c
theorem Tcs.txts {w : World} {B : Nat} {v : Value} {l : List ByteArray} (h : Tcs w B v l) : Txts w B v l := h.1
theorem Tcs.on {w w' : World} {v : Value} {l : List ByteArray} (h : Tcs w w.heap.size v l) (k : Q w w') : Tcs w' w'.heap.size v l := ⟨h.1.on k, h.2⟩
theorem Tcs.nil (w : World) (B : Nat) : Tcs w B (.slice none 0 0) [] := ⟨Txts.nil _ _, none, 0, rfl, Nat.le_refl _⟩
theorem Tcs.own {w : World} {base : Nat} {v : Value} {n : Nat} {l : List ByteArray} (h : w.ownsRow base 9 1 v n (l.map Value.string)) : Tcs w w.heap.size v l := by
  refine ⟨Txts.own h, ?_⟩
  have hn : n = l.length := by have := h.1; simpa using this.symm
  subst hn
  rcases h.2 with ⟨rfl, h0⟩ | ⟨g, cap, cur, rfl, hb, hg, h1, h2, h3, h4⟩
  · exact ⟨none, 0, by rw [h0], by omega⟩
  · exact ⟨_, _, rfl, h1⟩
/-- With its first element, as it lies. -/
theorem Tcs.at {w : World} {B : Nat} {v : Value} {l : List ByteArray} (h : Tcs w B v l) (h0 : 0 < l.length) : ∃ (a : Addr) (c : Nat), v = .slice (some a) l.length c ∧ l.length ≤ c ∧ a.block < B ∧ ∀ k (hk : k < l.length), w.cell? (a.add k) = some (.string l[k]) := by
  obtain ⟨⟨A, c, rfl, f⟩, A', c', e, hc⟩ := h
  injection e with e1 e2 e3
  subst e1 e3
  obtain ⟨a, rfl, h1, h2⟩ := f 0 h0
  refine ⟨a, c, rfl, hc, h1, fun k hk => ?_⟩
  obtain ⟨a', e1, -, e3⟩ := f k hk
  injection e1 with e1
  subst e1
  exact e3
theorem Tcs.form {w : World} {B : Nat} {v : Value} {l : List ByteArray} (h : Tcs w B v l) : ∃ A c, v = .slice A l.length c ∧ l.length ≤ c := h.2
theorem Tcs.cutTake {w : World} {B : Nat} {A : Option Addr} {n c : Nat} {l : List ByteArray} (h : Tcs w B (.slice A n c) l) {i : Nat} (hi : i ≤ l.length) : Tcs w B (.slice A i c) (l.take i) := by
  obtain ⟨⟨A', c', e, f⟩, A2, c2, e2, hc⟩ := h
  injection e with e1 e2' e3
  injection e2 with g1 g2 g3
  subst e1 e2' e3 g1 g3
  have hlen : (l.take i).length = i := by rw [List.length_take]; omega
  refine ⟨⟨_, _, by rw [hlen], fun k hk => ?_⟩, _, _, by rw [hlen], by omega⟩
  obtain ⟨a', e1, e2, e3⟩ := f k (by omega)
  exact ⟨a', e1, e2, by rw [List.getElem_take]; exact e3⟩
theorem add_add (a : Addr) (i k : Nat) : (a.add i).add k = a.add (i + k) := by
  cases a with
  | mk b o r =>
    unfold Addr.add
    by_cases hi : i = 0
    · subst hi; simp
    · by_cases hk : k = 0
      · subst hk; simp
      · simp [hi, hk]; omega
theorem Tcs.cutDrop {w : World} {B : Nat} {a : Addr} {n c : Nat} {l : List ByteArray} (h : Tcs w B (.slice (some a) n c) l) {i : Nat} (hi : i ≤ l.length) : Tcs w B (.slice (if c = i then some a else some (a.add i)) (n - i) (c - i)) (l.drop i) := by
  obtain ⟨⟨A', c', e, f⟩, A2, c2, e2, hc⟩ := h
  injection e with e1 e2' e3
  injection e2 with g1 g2 g3
  subst e1 e2' e3 g1 g3
  have hlen : (l.drop i).length = l.length - i := by rw [List.length_drop]
  refine ⟨⟨_, _, by rw [hlen], fun k hk => ?_⟩, _, _, by rw [hlen], by omega⟩
  rw [hlen] at hk
  obtain ⟨a', e1, e2, e3⟩ := f (i + k) (by omega)
  injection e1 with e1
  subst e1
  rw [if_neg (by omega)]
  exact ⟨a.add i, rfl, by rw [add_block]; exact e2, by rw [List.getElem_drop, add_add]; exact e3⟩
end Go.Proofs.Ytpcanlafbcdmcaa
