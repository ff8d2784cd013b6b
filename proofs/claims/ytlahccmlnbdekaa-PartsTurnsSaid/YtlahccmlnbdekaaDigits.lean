/-
  Plain facts on numbers' digits.
-/
import Derived.Test.YtlahccmlnbdekaaCore
import Derived.Lib.VarintMem
namespace Go.Proofs.Ytlahccmlnbdekaa
open Go.ChangeShapes Go.WideShapes Go.ChangeAt Go.RowKit
set_option linter.unusedVariables false

/-- A digit, a number's digits without a nought alone, and a number's digits. -/
def dig (n : Nat) : UInt8 := (48 + n % 10).toUInt8
def dg0 (n : Nat) : List UInt8 := if h : n = 0 then [] else dg0 (n / 10) ++ [dig n]
termination_by n
decreasing_by omega
def digs (n : Nat) : List UInt8 := dg0 (n / 10) ++ [dig n]
theorem dg0_zero : dg0 0 = [] := by rw [dg0]; simp
theorem dg0_pos {n : Nat} (h : n ≠ 0) : dg0 n = digs n := by rw [dg0, dif_neg h, digs]
theorem dg0_step {n : Nat} (h : n ≠ 0) : dg0 n = dg0 (n / 10) ++ [dig n] := by rw [dg0, dif_neg h]
theorem dig_nat (n : Nat) : (dig n).toNat = 48 + n % 10 := by rw [dig, Lib.toUInt8_toNat (by omega)]

/-- The value of digits behind a number. -/
def vd (n : Nat) (l : List UInt8) : Nat := l.foldl (fun n c => 10 * n + (c.toNat - 48)) n
theorem vd_nil (n : Nat) : vd n [] = n := List.foldl_nil
theorem vd_cons (n : Nat) (c : UInt8) (r : List UInt8) : vd n (c :: r) = vd (10 * n + (c.toNat - 48)) r := List.foldl_cons ..
def isD (c : UInt8) : Prop := 48 ≤ c.toNat ∧ c.toNat ≤ 57
theorem vd_append (n : Nat) (a b : List UInt8) : vd n (a ++ b) = vd (vd n a) b := List.foldl_append
theorem isD_dig (n : Nat) : isD (dig n) := by unfold isD; rw [dig_nat]; omega
theorem dg0_isD (n : Nat) : ∀ c ∈ dg0 n, isD c := by
  induction n using Nat.strongRecOn with
  | _ n ih =>
    by_cases h : n = 0
    · subst h; rw [dg0_zero]; simp
    · rw [dg0_step h]
      intro c hc
      rcases List.mem_append.1 hc with a | a
      · exact ih (n / 10) (by omega) c a
      · rw [List.mem_singleton.1 a]; exact isD_dig n
theorem digs_isD (n : Nat) : ∀ c ∈ digs n, isD c := by
  intro c hc
  rcases List.mem_append.1 hc with a | a
  · exact dg0_isD _ c a
  · rw [List.mem_singleton.1 a]; exact isD_dig n
theorem vd_dg0 (n : Nat) : vd 0 (dg0 n) = n := by
  induction n using Nat.strongRecOn with
  | _ n ih =>
    by_cases h : n = 0
    · subst h; rw [dg0_zero, vd_nil]
    · rw [dg0_step h, vd_append, ih (n / 10) (by omega)]
      simp only [vd_cons, vd_nil, dig_nat]; omega
theorem vd_digs (n : Nat) : vd 0 (digs n) = n := by
  rw [digs, vd_append, vd_dg0]
  simp only [vd_cons, vd_nil, dig_nat]; omega
theorem digs_inj {a b : Nat} (h : digs a = digs b) : a = b := by rw [← vd_digs a, h, vd_digs]
theorem digs_ne (n : Nat) : digs n ≠ [] := by simp [digs]
theorem dg0_len (k n : Nat) (h : n < 10 ^ k) : (dg0 n).length ≤ k := by
  induction k generalizing n with
  | zero => obtain rfl : n = 0 := by simp at h; exact h
            simp [dg0_zero]
  | succ k ih =>
    by_cases h0 : n = 0
    · subst h0; simp [dg0_zero]
    · rw [dg0_step h0, List.length_append]
      have := ih (n / 10) (by rw [Nat.pow_succ] at h; omega)
      simp; omega
theorem digs_len {n : Nat} (h : n ≤ 1099511627775) : (digs n).length ≤ 13 := by
  rw [digs, List.length_append]
  have := dg0_len 12 (n / 10) (by omega)
  simp; omega

/-- What is told of digits, one by one. -/
def acc (n : Nat) : List UInt8 → Option Nat
  | [] => some n
  | c :: r => if 48 ≤ c.toNat ∧ c.toNat ≤ 57 then (if 10 * n + (c.toNat - 48) ≤ 1099511627775 then acc (10 * n + (c.toNat - 48)) r else none) else none
def num (l : List UInt8) : Option Nat := if l = [] then none else if l.head? = some 48 ∧ l ≠ [48] then none else acc 0 l
theorem vd_mono (n : Nat) (l : List UInt8) : n ≤ vd n l := by
  induction l generalizing n with
  | nil => rw [vd_nil]; exact Nat.le_refl _
  | cons c r ih => rw [vd_cons]; exact Nat.le_trans (by omega) (ih (10 * n + (c.toNat - 48)))
theorem acc_some {n m : Nat} {l : List UInt8} (hn : n ≤ 1099511627775) (h : acc n l = some m) : (∀ c ∈ l, isD c) ∧ m = vd n l ∧ m ≤ 1099511627775 := by
  induction l generalizing n with
  | nil => simp [acc] at h; subst h; exact ⟨by simp, (vd_nil _).symm, hn⟩
  | cons c r ih =>
    rw [acc] at h
    split at h
    · rename_i hc
      split at h
      · rename_i hm
        obtain ⟨h1, h2, h3⟩ := ih hm h
        refine ⟨?_, by rw [vd_cons]; exact h2, h3⟩
        intro x hx
        rcases List.mem_cons.1 hx with rfl | hx
        · exact hc
        · exact h1 x hx
      · simp at h
    · simp at h
theorem acc_vd {n : Nat} {l : List UInt8} (hl : ∀ c ∈ l, isD c) (h : vd n l ≤ 1099511627775) : acc n l = some (vd n l) := by
  induction l generalizing n with
  | nil => rw [vd_nil, acc]
  | cons c r ih =>
    rw [vd_cons] at h ⊢
    have hc := hl c (List.mem_cons_self ..)
    rw [acc, if_pos (show 48 ≤ c.toNat ∧ c.toNat ≤ 57 from hc), if_pos (Nat.le_trans (vd_mono _ r) h)]
    exact ih (fun x hx => hl x (List.mem_cons_of_mem _ hx)) h
theorem dig_back {c : UInt8} (h : isD c) {n : Nat} (hn : n % 10 = c.toNat - 48) : dig n = c := by
  apply UInt8.toNat_inj.1
  rw [dig_nat, hn]; unfold isD at h; omega
/-- Digits with no nought ahead are their number's digits. -/
theorem digs_vd (l : List UInt8) (hl : ∀ c ∈ l, isD c) (h0 : l ≠ []) (h1 : ¬ (l.head? = some 48 ∧ l ≠ [48])) : l = digs (vd 0 l) := by
  obtain ⟨r, c, rfl⟩ : ∃ r c, l = r ++ [c] := ⟨l.dropLast, l.getLast h0, (List.dropLast_concat_getLast h0).symm⟩
  clear h0
  induction hk : r.length generalizing r c with
  | zero =>
    obtain rfl := List.length_eq_zero_iff.1 hk
    have hc : isD c := hl c (by simp)
    have h2 : c.toNat - 48 < 10 := by unfold isD at hc; omega
    simp only [List.nil_append, vd_cons, vd_nil, Nat.mul_zero, Nat.zero_add]
    rw [digs, Nat.div_eq_of_lt h2, dg0_zero, dig_back hc (Nat.mod_eq_of_lt h2)]; rfl
  | succ k ih =>
    have hc : isD c := hl c (by simp)
    have hc' : c.toNat - 48 < 10 := by unfold isD at hc; omega
    have hr : r ≠ [] := by rintro rfl; simp at hk
    have hh : r.head? ≠ some 48 := by
      intro e
      refine h1 ⟨by rw [List.head?_append, e]; rfl, ?_⟩
      intro e2
      have := congrArg List.length e2
      simp at this; exact hr this
    obtain ⟨r', c', rfl⟩ : ∃ r' c', r = r' ++ [c'] := ⟨r.dropLast, r.getLast hr, (List.dropLast_concat_getLast hr).symm⟩
    have IH := ih r' c' (fun x hx => hl x (List.mem_append_left _ hx)) (fun hx => hh hx.1) (by simp at hk; omega)
    obtain ⟨m, hm⟩ : ∃ m, m = vd 0 (r' ++ [c']) := ⟨_, rfl⟩
    rw [← hm] at IH
    have hm0 : m ≠ 0 := by
      rintro rfl
      apply hh
      rw [IH]
      simp [digs, dg0_zero, dig]
    rw [vd_append, ← hm]
    simp only [vd_cons, vd_nil]
    rw [digs, show (10 * m + (c.toNat - 48)) / 10 = m by omega, dg0_pos hm0, ← IH, dig_back hc (by omega)]
theorem digs_head (n : Nat) : ¬ ((digs n).head? = some 48 ∧ digs n ≠ [48]) := by
  induction n using Nat.strongRecOn with
  | _ n ih =>
    rintro ⟨h1, h2⟩
    by_cases h : n / 10 = 0
    · rw [digs, h, dg0_zero] at h1 h2
      simp at h1; rw [h1] at h2; exact h2 rfl
    · have e : (digs (n / 10)).head? = some 48 := by
        rw [digs, dg0_pos h, List.head?_append] at h1
        cases hx : (digs (n / 10)).head? with
        | none => rw [List.head?_eq_none_iff] at hx; exact absurd hx (digs_ne _)
        | some v => rw [hx] at h1; simpa using h1
      refine ih (n / 10) (by omega) ⟨e, ?_⟩
      intro e2
      have := vd_digs (n / 10)
      rw [e2] at this
      simp [vd_cons, vd_nil] at this
      omega
theorem num_iff {l : List UInt8} {n : Nat} : num l = some n ↔ n ≤ 1099511627775 ∧ l = digs n := by
  constructor
  · intro h
    unfold num at h
    split at h
    · simp at h
    · split at h
      · simp at h
      · rename_i h0 h1
        obtain ⟨a, rfl, c⟩ := acc_some (by omega) h
        exact ⟨c, digs_vd l a h0 h1⟩
  · rintro ⟨h, rfl⟩
    rw [num, if_neg (digs_ne n), if_neg (digs_head n), acc_vd (digs_isD n) (by rw [vd_digs]; exact h), vd_digs]
end Go.Proofs.Ytlahccmlnbdekaa
