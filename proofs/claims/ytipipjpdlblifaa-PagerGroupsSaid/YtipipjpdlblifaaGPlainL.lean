/-
  Plain facts for PagerPlain and its like.
-/
import Derived.Test.YtipipjpdlblifaaGPage
import Derived.Test.YtipipjpdlblifaaGThings
namespace Go.Proofs.Ytipipjpdlblifaa
open Go.ChangeShapes Go.WideShapes Go.ChangeAt Go.RowKit
set_option linter.unusedVariables false
set_option linter.unusedSimpArgs false

theorem tgO_nil (k p : ByteArray) : tgO k p ⟨#[]⟩ = (k, false) := by
  apply tgO_no
  rw [groupO_no]
  unfold okG
  rw [show decide (0 < (⟨#[]⟩ : ByteArray).size) = false by decide]
  simp
/-- Keys, and those that are there, under a prefix. -/
def wantL (p : ByteArray) (l : List Ent) : List ByteArray := (l.filter (isT p)).map (·.key)
theorem wantL_yes {p : ByteArray} {l : List Ent} {i : Nat} (h : i < l.length) (k : isT p l[i] = true) : wantL p (l.take (i + 1)) = wantL p (l.take i) ++ [l[i].key] := by
  rw [List.take_succ_eq_append_getElem h, wantL, List.filter_append, List.map_append]; simp [k, wantL]
theorem wantL_no {p : ByteArray} {l : List Ent} {i : Nat} (h : i < l.length) (k : isT p l[i] = false) : wantL p (l.take (i + 1)) = wantL p (l.take i) := by
  rw [List.take_succ_eq_append_getElem h, wantL, List.filter_append, List.map_append]; simp [k, wantL]
theorem plain_thgs {p : ByteArray} {l : List Ent} (hI : okI l) : ∀ i, i ≤ l.length → thgs p ⟨#[]⟩ (l.take i) = (wantL p (l.take i)).map (fun k => (k, false)) := by
  obtain ⟨-, hr, hall⟩ := okI_iff.1 hI
  intro i
  induction i with
  | zero => intro _; rfl
  | succ i ih =>
    intro hi
    have h : i < l.length := by omega
    rw [thgs_succ p _ h]
    cases c : isT p l[i] with
    | false => rw [stepT_no c, wantL_no h c, ih (by omega)]
    | true =>
      rw [stepT_more c, wantL_yes h c, ih (by omega), tgO_nil, List.map_append]
      · rfl
      · intro e
        rw [tgO_nil] at e
        obtain ⟨A, y, hA, hy⟩ := last_of e (hasO_size (hall _ (List.getElem_mem h)).1).1
        have hin : y ∈ thgs p ⟨#[]⟩ (l.take i) := by rw [hA]; simp
        rw [ih (by omega), List.mem_map] at hin
        obtain ⟨k, hk, rfl⟩ := hin
        rw [wantL, List.mem_map] at hk
        obtain ⟨f, hf, rfl⟩ := hk
        obtain ⟨j, hj, rfl⟩ := List.getElem_of_mem (List.mem_filter.1 hf).1
        rw [List.length_take] at hj
        rw [List.getElem_take] at hy
        have := (List.pairwise_iff_getElem.1 hr) j i (by omega) h (by omega)
        rw [show l[j].key = l[i].key from hy, ltB_irrefl] at this; cases this
theorem thing_pos {p d : ByteArray} {l : List Ent} (hI : okI l) (hp : hasO 0 60 ko p = true) (hd : hasO 0 1 ko d = true) : ∀ x ∈ thgs p d l, 0 < x.1.size := fun x hx => by
  obtain ⟨-, hr, hall⟩ := okI_iff.1 hI
  have hk : ∀ e ∈ l, hasO 1 60 ko e.key = true := fun e he => (hall e he).1
  obtain ⟨e, he, h1, h2⟩ := (thF_all hr hk hp hd).what hk hp hd hx
  exact h2.pos
theorem ltB_nil' {b : ByteArray} (k : 0 < b.size) : ltB ⟨#[]⟩ b = true := by
  unfold ltB
  rw [show (ByteArray.toList ⟨#[]⟩) = [] from is_nil rfl]
  cases e : b.toList with
  | nil => have := (nil_text b).1 e; omega
  | cons x r => rfl
theorem bhd_all {T : List (ByteArray × Bool)} (h : ∀ x ∈ T, 0 < x.1.size) : bhd ⟨#[]⟩ T = T := List.filter_eq_self.2 fun x hx => ltB_nil' (h x hx)
theorem plain_page {p : ByteArray} {l : List Ent} (hI : okI l) (hp : hasO 0 60 ko p = true) : (thgs p ⟨#[]⟩ l).map (·.1) = wantL p l ∧ pageO (thgs p ⟨#[]⟩ l) ⟨#[]⟩ 1000 = ⟨wantL p l, [], false, lastT (thgs p ⟨#[]⟩ l)⟩ ∧ (wantL p l).length ≤ 60 := by
  have h := plain_thgs (p := p) hI l.length (Nat.le_refl _)
  rw [List.take_length] at h
  have hb := bhd_all (thing_pos (d := ⟨#[]⟩) hI hp (by decide +kernel))
  have hl : (wantL p l).length ≤ 60 := by rw [wantL, List.length_map]; exact Nat.le_trans (List.length_filter_le _ _) hI.1
  refine ⟨by rw [h, List.map_map]; simp [Function.comp_def], ?_, hl⟩
  rw [pageO_all (by rw [hb, h, List.length_map]; omega), hb, h]
  simp [pgOf, keysOf, grpsOf, List.filter_map, Function.comp_def]
end Go.Proofs.Ytipipjpdlblifaa
