/-
  Plain facts for PagerWhole: pages, one behind the other.
-/
import Derived.Test.YtipipjpdlblifaaGPage
namespace Go.Proofs.Ytipipjpdlblifaa
open Go.ChangeShapes Go.WideShapes Go.ChangeAt Go.RowKit
set_option linter.unusedVariables false
set_option linter.unusedSimpArgs false

theorem lastT_take {T : List (ByteArray × Bool)} {n : Nat} (h : n < T.length) : lastT (T.take (n + 1)) = (T[n]).1 := by
  rw [List.take_succ_eq_append_getElem h, lastT_snoc]
theorem ltB_empty {x : ByteArray} (h : 0 < x.size) : ltB ⟨#[]⟩ x = true := by
  unfold ltB
  have e0 : (⟨#[]⟩ : ByteArray).toList = [] := List.length_eq_zero_iff.1 (by rw [length_toList]; rfl)
  have e1 := length_toList x
  rw [e0]
  cases e : x.toList with
  | nil => rw [e] at e1; simp only [List.length_nil] at e1; omega
  | cons c r => rfl
/-- What stands behind the first things. -/
theorem bhd_drop {T : List (ByteArray × Bool)} (hr : T.Pairwise (fun a b => ltB a.1 b.1 = true)) (hp : ∀ x ∈ T, 0 < x.1.size) {n : Nat} (hn : n ≤ T.length) : bhd (lastT (T.take n)) T = T.drop n := by
  cases n with
  | zero =>
    rw [List.take_zero, lastT_nil, List.drop_zero]
    exact List.filter_eq_self.2 fun x hx => ltB_empty (hp x hx)
  | succ n =>
    rw [lastT_take (by omega)]
    have hlt : n < T.length := by omega
    have key : bhd T[n].1 (T.take (n + 1) ++ T.drop (n + 1)) = T.drop (n + 1) := by
      rw [bhd, List.filter_append]
      have e1 : (T.take (n + 1)).filter (fun x => ltB T[n].1 x.1) = [] := by
        refine List.filter_eq_nil_iff.2 fun x hx => ?_
        obtain ⟨j, hj, rfl⟩ := List.getElem_of_mem hx
        rw [List.length_take] at hj
        rw [List.getElem_take]
        by_cases q : j = n
        · subst q; rw [ltB_irrefl]; simp
        · have := (List.pairwise_iff_getElem.1 hr) j n (by omega) hlt (by omega)
          rw [ltB_asymm this]; simp
      have e2 : (T.drop (n + 1)).filter (fun x => ltB T[n].1 x.1) = T.drop (n + 1) := by
        refine List.filter_eq_self.2 fun x hx => ?_
        obtain ⟨j, hj, rfl⟩ := List.getElem_of_mem hx
        rw [List.length_drop] at hj
        rw [List.getElem_drop]
        exact (List.pairwise_iff_getElem.1 hr) n (n + 1 + j) hlt (by omega) (by omega)
      rw [e1, e2, List.nil_append]
    rwa [List.take_append_drop] at key
theorem mem_both {T : List (ByteArray × Bool)} {x : ByteArray × Bool} (h : x ∈ T) : x.1 ∈ keysOf T ∨ x.1 ∈ grpsOf T := by
  obtain ⟨k, b⟩ := x
  cases b
  · left; simp only [keysOf, List.mem_map, List.mem_filter]; exact ⟨_, ⟨h, rfl⟩, rfl⟩
  · right; simp only [grpsOf, List.mem_map, List.mem_filter]; exact ⟨_, ⟨h, rfl⟩, rfl⟩
/-- A page behind the first n things. -/
theorem page_next {T : List (ByteArray × Bool)} {N : List ByteArray} (hN : N = T.map (·.1)) (hr : T.Pairwise (fun a b => ltB a.1 b.1 = true)) (hp : ∀ x ∈ T, 0 < x.1.size) {n : Nat} (hn : n ≤ T.length) {most : Nat} (hm : 1 ≤ most) {P : Pg} {k : Nat} (hP : P = pageO T (lastT (T.take n)) most) (hk : k = P.keys.length + P.grps.length) :
    n + k ≤ N.length ∧ P.more = decide (n + k < N.length) ∧ (P.more = true → k = most) ∧ (∀ j, j < k → ∃ h : n + j < N.length, N[n + j] ∈ P.keys ∨ N[n + j] ∈ P.grps) ∧ (0 < k → P.last = lastT (T.take (n + k)) ∧ ∃ h : n + k - 1 < N.length, P.last = N[n + k - 1]) := by
  subst hP hk hN
  rw [pageO, bhd_drop hr hp hn]
  obtain ⟨B, hB⟩ : ∃ B, B = (T.drop n).take most := ⟨_, rfl⟩
  have hl : B.length = min most (T.length - n) := by rw [hB, List.length_take, List.length_drop]
  simp only [pgOf, ← hB, both_len, List.length_map, List.length_drop]
  have tk : T.take (n + B.length) = T.take n ++ B := by
    rw [List.take_add, hB, List.length_take, List.length_drop]
    congr 1
    rw [Nat.min_def]
    split
    · rfl
    · rw [List.take_of_length_le (by rw [List.length_drop]; omega), List.take_of_length_le (by rw [List.length_drop]; omega)]
  refine ⟨by omega, by congr 1; simp only [eq_iff_iff]; omega, by simp only [decide_eq_true_eq]; omega, fun j hj => ⟨by omega, ?_⟩, fun hk => ?_⟩
  · have e : B[j] = T[n + j] := by simp only [hB, List.getElem_take, List.getElem_drop]
    rw [List.getElem_map, ← e]
    exact mem_both (List.getElem_mem hj)
  · have e : lastT B = lastT (T.take (n + B.length)) := by
      rw [tk]
      rcases List.eq_nil_or_concat B with h0 | ⟨A, y, hA⟩
      · rw [h0] at hk; simp at hk
      · rw [List.concat_eq_append] at hA
        rw [hA, ← List.append_assoc, lastT_snoc, lastT_snoc]
    refine ⟨e, by omega, e.trans ?_⟩
    rw [List.getElem_map]
    obtain ⟨c, hc⟩ : ∃ c, n + B.length = c + 1 := ⟨n + B.length - 1, by omega⟩
    have h2 := lastT_take (T := T) (n := c) (by omega)
    simp only [hc, Nat.add_sub_cancel]
    exact h2
end Go.Proofs.Ytipipjpdlblifaa
