/-
  Plain facts on what spans are of octets.
-/
import Derived.Test.YtmekgpnppcponaaSParse
namespace Go.Proofs.Ytmekgpnppcponaa
open Go.ChangeShapes Go.WideShapes Go.ChangeAt Go.RowKit
set_option linter.unusedVariables false

theorem Cells.on {w1 w2 : World} {g : Nat} {f t : Int} {o b : Bool} (c : Cells w1 g f t o b) (hg : g < w1.heap.size) (q : Q w1 w2) : Cells w2 g f t o b := by
  obtain ⟨c0, c1, c2, c3⟩ := c
  have e : ∀ k, w2.cell? ⟨g, k, none⟩ = w1.cell? ⟨g, k, none⟩ := fun k => Below.cell q (p := ⟨g, k, none⟩) hg
  exact ⟨(e 0).trans c0, (e 1).trans c1, (e 2).trans c2, (e 3).trans c3⟩
theorem of_cases (f t : Int) (o b : Bool) (n : Nat) : (∃ i k : Nat, ofP f t o b n = ((i : Int), (k : Int), (0 : Int)) ∧ 1 ≤ k ∧ i + k ≤ n) ∨ ∃ e : Int, ofP f t o b n = (0, 0, e) ∧ e ≠ 0 ∧ (e = 1 ∨ e = 12) := by
  have hq : ∃ x y e, ofP f t o b n = (x, y, e) := ⟨_, _, _, rfl⟩
  obtain ⟨x, y, e, hq⟩ := hq
  by_cases he : e = 0
  · subst he
    obtain ⟨p1, p2, p3⟩ := of_yes hq
    refine .inl ⟨x.toNat, y.toNat, ?_, by omega, by omega⟩
    rw [hq, Int.toNat_of_nonneg p1, Int.toNat_of_nonneg (by omega)]
  · obtain ⟨rfl, rfl, h⟩ := of_no hq he
    exact .inr ⟨e, hq, he, h⟩
theorem of_more {f t : Int} {o b : Bool} {m n x y x' y' e' : Int} (h : ofP f t o b m = (x, y, 0)) (h' : ofP f t o b n = (x', y', e')) (hmn : m ≤ n) : e' = 0 ∧ y ≤ y' := by
  unfold ofP at h h'
  split at h
  · simp at h
  · rename_i h1
    rw [if_neg (by intro h2; apply h1; rcases h2 with h2 | h2; exact .inl h2; exact .inr (by omega))] at h'
    cases b
    · rw [if_neg (by simp)] at h h'
      split at h
      · simp at h
      · rw [if_neg (by omega)] at h'
        cases o
        · simp only [Bool.false_eq_true, false_or] at h h'
          split at h <;> split at h' <;> simp at h h' <;> omega
        · simp at h h'
          omega
    · rw [if_pos rfl] at h h'
      split at h
      · simp at h
      · split at h' <;> split at h
        all_goals first
          | (simp at h h'; omega)
          | (split at h' <;> simp at h h' <;> omega)
theorem of_in {f t : Int} {n : Nat} (h0 : 0 ≤ f) (h1 : f ≤ t) (h2 : t < n) (h3 : n ≤ 5000) : ofP f t false false n = (f, t - f + 1, 0) := by
  have hm : mayP f t false false = true := by simp [mayP, inP]; omega
  unfold ofP
  rw [if_neg (by rw [hm]; simp <;> omega), if_neg (by simp), if_neg (by omega), if_neg (by simp; omega)]
theorem of_open {f : Int} {n : Nat} (h0 : 0 ≤ f) (h2 : f < n) (h3 : n ≤ 5000) : ofP f 0 true false n = (f, n - f, 0) := by
  have hm : mayP f 0 true false = true := by simp [mayP, inP]; omega
  unfold ofP
  rw [if_neg (by rw [hm]; simp <;> omega), if_neg (by simp), if_neg (by omega), if_pos (.inl rfl)]
theorem of_back {t : Int} {n : Nat} (h0 : 0 < t) (h2 : 0 < n) (h3 : t ≤ 5000) : ofP 0 t false true n = if (n : Int) ≤ t then (0, (n : Int), 0) else ((n : Int) - t, t, 0) := by
  have hm : mayP 0 t false true = true := by simp [mayP, inP]; omega
  unfold ofP
  rw [if_neg (by rw [hm]; simp <;> omega), if_pos rfl, if_neg (by omega)]
theorem all_cut (s : ByteArray) : s.extract 0 s.size = s := by
  apply bl_inj
  rw [bl_extract, List.drop_zero, List.take_of_length_le (by rw [bl_length]; omega)]
theorem two_cut (s : ByteArray) {k : Nat} (h : k ≤ s.size) : s.extract 0 k ++ s.extract k s.size = s := by
  apply bl_inj
  rw [bl_append, bl_extract, bl_extract, List.drop_zero, Nat.sub_zero, List.take_of_length_le (l := (bl s).drop k) (by rw [List.length_drop, bl_length]; omega), List.take_append_drop]
theorem nat16 {a : Int} (h : (Lit.int .u16 a).wf = true) : ∃ n : Nat, a = n ∧ n < 65536 := by
  have : 0 ≤ a ∧ a ≤ 65535 := by simpa [Lit.wf, IntKind.min, IntKind.max, IntKind.signed, IntKind.bits] using h
  exact ⟨a.toNat, by omega, by omega⟩
end Go.Proofs.Ytmekgpnppcponaa
