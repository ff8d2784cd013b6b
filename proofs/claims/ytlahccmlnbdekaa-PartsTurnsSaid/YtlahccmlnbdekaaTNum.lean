/-
  Plain facts on digits read, and contracts of the program's digit, number, Parse, count, Read.
-/
import Derived.Test.YtlahccmlnbdekaaTText
namespace Go.Proofs.Ytlahccmlnbdekaa
open Go.ChangeShapes Go.WideShapes Go.ChangeAt Go.RowKit
set_option linter.unusedVariables false

/-- What a digit tells, and digits of a base behind a number. -/
def dv (c : UInt8) : Nat := if 48 ≤ c.toNat ∧ c.toNat ≤ 57 then c.toNat - 48 else if 97 ≤ c.toNat ∧ c.toNat ≤ 102 then c.toNat - 97 + 10 else 16
theorem dv_le (c : UInt8) : dv c ≤ 16 := by unfold dv; split <;> (try split) <;> omega
def nb (b : Nat) : Nat → List UInt8 → Option Nat
  | n, [] => some n
  | n, c :: r => if dv c < b then nb b ((b * n + dv c) % 4294967296) r else none
theorem nb_lt {b n m : Nat} {l : List UInt8} (h : nb b n l = some m) (hn : n < 4294967296) : m < 4294967296 := by
  induction l generalizing n with
  | nil => simp [nb] at h; omega
  | cons c r ih =>
    rw [nb] at h
    split at h
    · exact ih h (Nat.mod_lt _ (by omega))
    · simp at h
theorem nb_append {b n : Nat} (l r : List UInt8) : nb b n (l ++ r) = (nb b n l).bind fun m => nb b m r := by
  induction l generalizing n with
  | nil => rfl
  | cons c l ih =>
    rw [List.cons_append, nb, nb]
    split
    · exact ih
    · rfl
theorem dv_hx {d : Nat} (h : d < 16) : dv (hx d) = d := by
  have : ∀ d, d < 16 → dv (hx d) = d := by decide
  exact this d h
theorem hx_dv {c : UInt8} (h : dv c < 16) : hx (dv c) = c := by
  apply UInt8.toNat_inj.1
  rw [hx_nat h]
  unfold dv at h ⊢
  split at h
  · rename_i h1; rw [if_pos h1, if_pos (by omega)]; omega
  · rename_i h1
    rw [if_neg h1]
    split at h
    · rename_i h2; rw [if_pos h2, if_neg (by omega)]; omega
    · omega
theorem nb_hexk (k t : Nat) (h : t < 16 ^ k) (hk : k ≤ 8) : nb 16 0 (hexk k t) = some t := by
  induction k generalizing t with
  | zero => simp at h; subst h; rfl
  | succ k ih =>
    have h2 : t / 16 < 16 ^ k := by rw [Nat.pow_succ] at h; omega
    have h3 : 16 ^ (k + 1) ≤ 4294967296 := by
      have : 16 ^ (k + 1) ≤ 16 ^ 8 := Nat.pow_le_pow_right (by omega) hk
      exact this
    have hd := dv_hx (Nat.mod_lt t (by omega : 0 < 16))
    rw [hexk, nb_append, ih _ h2 (by omega)]
    show nb 16 (t / 16) [hx (t % 16)] = some t
    rw [nb, hd, if_pos (Nat.mod_lt _ (by omega)), nb]
    congr 1
    omega
theorem nb_back (k : Nat) (l : List UInt8) (hl : l.length = k) (hk : k ≤ 8) {t : Nat} (h : nb 16 0 l = some t) : t < 16 ^ k ∧ l = hexk k t := by
  induction k generalizing l t with
  | zero => obtain rfl := List.length_eq_zero_iff.1 hl; simp [nb] at h; subst h; exact ⟨by decide, rfl⟩
  | succ k ih =>
    have h3 : 16 ^ (k + 1) ≤ 4294967296 := by
      have : 16 ^ (k + 1) ≤ 16 ^ 8 := Nat.pow_le_pow_right (by omega) hk
      exact this
    have hl0 : l ≠ [] := by rintro rfl; simp at hl
    obtain ⟨r, c, rfl⟩ : ∃ r c, l = r ++ [c] := ⟨l.dropLast, l.getLast hl0, (List.dropLast_concat_getLast hl0).symm⟩
    have hr : r.length = k := by simpa using hl
    rw [nb_append] at h
    cases hm : nb 16 0 r with
    | none => rw [hm] at h; simp at h
    | some m =>
      rw [hm] at h
      obtain ⟨a, b⟩ := ih r hr (by omega) hm
      have h : nb 16 m [c] = some t := h
      rw [nb] at h
      split at h
      · rename_i hc
        simp only [nb, Option.some.injEq] at h
        rw [Nat.pow_succ] at h3 ⊢
        have e : t = 16 * m + dv c := by rw [← h]; exact Nat.mod_eq_of_lt (by omega)
        refine ⟨by omega, ?_⟩
        rw [hexk, show t / 16 = m by omega, show t % 16 = dv c by omega, hx_dv hc, ← b]
      · simp at h
/-- A text of eight is its digits' tag. -/
theorem tag_nb {l : List UInt8} (h : l.length = 8) : tagP l = nb 16 0 l := by
  cases e : nb 16 0 l with
  | some t =>
    obtain ⟨a, b⟩ := nb_back 8 l h (Nat.le_refl _) e
    exact tagP_iff.2 ⟨a, b⟩
  | none =>
    cases e2 : tagP l with
    | none => rfl
    | some t =>
      obtain ⟨a, b⟩ := tagP_iff.1 e2
      rw [b, nb_hexk 8 t a (Nat.le_refl _)] at e
      simp at e
theorem dv_dig {c : UInt8} (h : isD c) : dv c = c.toNat - 48 := by unfold isD at h; rw [dv, if_pos h]
theorem nb_vd {n : Nat} {l : List UInt8} (hl : ∀ c ∈ l, isD c) (h : vd n l < 4294967296) : nb 10 n l = some (vd n l) := by
  induction l generalizing n with
  | nil => rw [vd_nil, nb]
  | cons c r ih =>
    rw [vd_cons] at h ⊢
    have hc := hl c (List.mem_cons_self ..)
    have hm := vd_mono (10 * n + (c.toNat - 48)) r
    have hd := dv_dig hc
    unfold isD at hc
    rw [nb, hd, if_pos (by omega), Nat.mod_eq_of_lt (by omega)]
    exact ih (fun x hx => hl x (List.mem_cons_of_mem _ hx)) h
/-- What is told of how many there are. -/
def cntQ (l : List UInt8) : Option Nat :=
  match nb 10 0 (l.drop 1) with
  | some n => if (1 ≤ n ∧ n ≤ 100) ∧ cnt n = l then some n else none
  | none => none
theorem cntQ_eq (l : List UInt8) : cntQ l = cntP l := by
  cases e : cntP l with
  | some n =>
    obtain ⟨h1, rfl⟩ := cntP_iff.1 e
    have : nb 10 0 ((cnt n).drop 1) = some n := by
      show nb 10 0 (digs n) = some n
      rw [nb_vd (digs_isD n) (by rw [vd_digs]; omega), vd_digs]
    rw [cntQ, this]
    exact if_pos ⟨h1, rfl⟩
  | none =>
    cases e2 : cntQ l with
    | none => rfl
    | some n =>
      unfold cntQ at e2
      split at e2
      · rename_i m hm
        split at e2
        · rename_i h
          rw [cntP_iff.2 ⟨h.1, h.2.symm⟩] at e
          simp at e
        · simp at e2
      · simp at e2
end Go.Proofs.Ytlahccmlnbdekaa
