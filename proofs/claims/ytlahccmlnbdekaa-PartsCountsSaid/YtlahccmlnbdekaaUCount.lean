/-
  Plain facts: what a part that is laid changes.
-/
import Derived.Test.YtlahccmlnbdekaaUPlain
import Derived.Test.YtlahccmlnbdekaaUOct
namespace Go.Proofs.Ytlahccmlnbdekaa
open Go.ChangeShapes Go.WideShapes Go.ChangeAt Go.RowKit
set_option linter.unusedVariables false
set_option linter.unusedSimpArgs false
set_option maxRecDepth 100000

/-- How many octets the part of a number has. -/
def wasP (L : List Prt) (n : Int) : Nat := sizP (L.filter fun x => decide (x.n = n))
def eqP (p x : Prt) : Bool := decide (x.n = p.n) && decide (x.data = p.data)
theorem sizP_append (a b : List Prt) : sizP (a ++ b) = sizP a + sizP b := by rw [sizP, sizP, sizP, List.map_append, List.sum_append]
theorem sizP_cons (x : Prt) (b : List Prt) : sizP (x :: b) = x.data.size + sizP b := by simp [sizP]
theorem siz_split (L : List Prt) (n : Int) : sizP L = sizP (L.filter fun x => decide (x.n < n)) + wasP L n + sizP (L.filter fun x => decide (n < x.n)) := by
  induction L with
  | nil => rfl
  | cons y r ih =>
    unfold wasP at ih ⊢
    rw [sizP_cons]
    rcases Int.lt_trichotomy y.n n with h | h | h
    · rw [List.filter_cons_of_pos (by simpa using h), List.filter_cons_of_neg (by simp; omega), List.filter_cons_of_neg (by simp; omega), sizP_cons]; omega
    · rw [List.filter_cons_of_neg (by simp; omega), List.filter_cons_of_pos (by simpa using h), List.filter_cons_of_neg (by simp; omega), sizP_cons]; omega
    · rw [List.filter_cons_of_neg (by simp; omega), List.filter_cons_of_neg (by simp; omega), List.filter_cons_of_pos (by simpa using h), sizP_cons]; omega
theorem siz_with (L : List Prt) (p : Prt) : sizP (withP L p) + wasP L p.n = sizP L + p.data.size := by
  have := siz_split L p.n
  rw [withP, sizP_append, sizP_append, sizP_cons]
  simp only [sizP, List.map_nil, List.sum_nil] at this ⊢
  omega
theorem siz_set {l : List Upl} {i : Nat} {X : Upl} (h : i < l.length) : sizU (l.set i X) + sizP l[i].L = sizU l + sizP X.L := by
  induction l generalizing i with
  | nil => simp at h
  | cons y r ih =>
    cases i with
    | zero => simp only [List.set_cons_zero, List.getElem_cons_zero, sizU, List.map_cons, List.sum_cons]; omega
    | succ i =>
      have := ih (i := i) (by simpa using h)
      simp only [List.set_cons_succ, List.getElem_cons_succ, sizU, List.map_cons, List.sum_cons] at this ⊢
      omega
theorem wasP_none {L : List Prt} {i : Nat} (h : okL L) (hi : i < L.length) : wasP (L.take i) L[i].n = 0 := by
  rw [wasP, List.filter_eq_nil_iff.2]
  · rfl
  · intro x hx
    obtain ⟨j, hj, rfl⟩ := List.getElem_of_mem hx
    rw [List.length_take] at hj
    rw [List.getElem_take]
    have := okL_lt h j i (by omega) hi
    simp; omega
theorem wasP_yes {L : List Prt} {i : Nat} {n : Int} (h : okL L) (hi : i < L.length) (e : L[i].n = n) : wasP (L.take (i + 1)) n = L[i].data.size := by
  have h0 := wasP_none h hi
  rw [e] at h0
  rw [List.take_succ_eq_append_getElem hi, wasP, List.filter_append, List.filter_cons_of_pos (by simpa using e), sizP_append]
  unfold wasP at h0
  rw [h0]; simp [sizP]
theorem wasP_no {L : List Prt} {i : Nat} {n : Int} (hi : i < L.length) (e : L[i].n ≠ n) : wasP (L.take (i + 1)) n = wasP (L.take i) n := by
  rw [List.take_succ_eq_append_getElem hi, wasP, List.filter_append, List.filter_cons_of_neg (by simpa using e), wasP]; simp
theorem eqP_yes {p x : Prt} (h : x = p) : eqP p x = true := by subst h; simp [eqP]
theorem eqP_no {p x : Prt} (h : x ≠ p) : eqP p x = false := by
  rw [eqP, Bool.and_eq_false_iff]
  by_cases e : x.n = p.n
  · right
    simp only [decide_eq_false_iff_not]
    intro k; apply h; cases x; cases p; simp only at e k; rw [e, k]
  · left; simpa using e
theorem cnt_next {L : List Prt} {i : Nat} {p : Prt} (hi : i < L.length) : ((L.take (i + 1)).filter (eqP p)).length = ((L.take i).filter (eqP p)).length + (if eqP p L[i] then 1 else 0) := by
  rw [List.take_succ_eq_append_getElem hi, List.filter_append, List.length_append]
  congr 1
  cases h : eqP p L[i] <;> simp [h]
theorem cnt_with (L : List Prt) (p : Prt) : ((withP L p).filter (eqP p)).length = 1 := by
  have h1 : (L.filter fun x => decide (x.n < p.n)).filter (eqP p) = [] := List.filter_eq_nil_iff.2 fun x hx => by
    have : x.n < p.n := by simpa using (List.mem_filter.1 hx).2
    simp [eqP]; intro e; omega
  have h2 : (L.filter fun x => decide (p.n < x.n)).filter (eqP p) = [] := List.filter_eq_nil_iff.2 fun x hx => by
    have : p.n < x.n := by simpa using (List.mem_filter.1 hx).2
    simp [eqP]; intro e; omega
  rw [withP, List.filter_append, List.filter_append, h1, h2]
  simp [eqP]
/-- What is found ahead of the part that is laid, and behind it. -/
theorem lay_find {L : List Upl} {id : Nat} {p : Prt} {r : List Upl} {t : Nat} (h : LayC L id p r t 0) : ∃ U V : Upl, FindC L id U 0 ∧ FindC r id V 0 ∧ okUp U ∧ okUp V ∧ V.L = withP U.L p ∧ sizU r + wasP U.L p.n = sizU L + p.data.size := by
  have hr := layC_ok h
  cases h with
  | yes i hi h1 h2 h3 h4 h5 =>
    have hi2 : i < (L.set i (⟨L[i].id, L[i].key, withP L[i].L p⟩ : Upl)).length := by rw [List.length_set]; exact hi
    have f2 := FindC.yes (l := L.set i (⟨L[i].id, L[i].key, withP L[i].L p⟩ : Upl)) (id := id) i hi2 hr (by rw [List.getElem_set_self]; exact h3) (fun j hj hl => by
      rw [List.getElem_set_ne (by omega)]
      exact h4 j hj (by rw [List.length_set] at hl; exact hl))
    rw [List.getElem_set_self] at f2
    have s1 := siz_set (X := (⟨L[i].id, L[i].key, withP L[i].L p⟩ : Upl)) hi
    have s2 := siz_with L[i].L p
    have hu := (okUps_iff.1 h1).2.1 _ (List.getElem_mem hi)
    have hv := (okUps_iff.1 hr).2.1 _ (List.getElem_mem hi2)
    rw [List.getElem_set_self] at hv
    refine ⟨_, _, .yes i hi h1 h3 h4, f2, hu, hv, rfl, ?_⟩
    show sizU (L.set i ⟨L[i].id, L[i].key, withP L[i].L p⟩) + wasP L[i].L p.n = sizU L + p.data.size
    simp only at s1
    omega
end Go.Proofs.Ytlahccmlnbdekaa
