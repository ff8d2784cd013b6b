/-
  The order of texts (stage 11).
-/
import Derived.Test.YtbilnomafloopaaGreatIFlat
namespace Go.Proofs.YtbilnomafloopaaGreat
set_option maxRecDepth 100000
open Go.ChangeShapes Go.WideShapes Go.ChangeAt Go.RowKit
set_option linter.unusedVariables false
set_option linter.unusedSimpArgs false

theorem less_irrefl (a : List UInt8) : Op.bytesLess a a = false := by
  induction a with
  | nil => rfl
  | cons x r ih => simp [Op.bytesLess, ih]
theorem less_leq : ∀ a b : List UInt8, (Op.bytesLess a b || a == b) = !(Op.bytesLess b a) := by
  intro a
  induction a with
  | nil => intro b; cases b <;> simp [Op.bytesLess]
  | cons x r ih =>
    intro b
    cases b with
    | nil => simp [Op.bytesLess]
    | cons y m =>
      have h := ih m
      by_cases e : x = y
      · subst e
        have nl : ¬ x < x := by simp
        simp only [Op.bytesLess, nl, decide_false, Bool.false_or, beq_self_eq_true, Bool.true_and]
        rw [← h]
        simp
      · have e' : ¬ y = x := fun q => e q.symm
        by_cases lt : x < y
        · have ngt : ¬ y < x := by
            rw [UInt8.lt_iff_toNat_lt] at lt ⊢; omega
          simp [Op.bytesLess, lt, ngt, e, e']
        · have gt : y < x := by
            rw [UInt8.lt_iff_toNat_lt] at lt ⊢
            have : ¬ x.toNat = y.toNat := fun q => e (UInt8.toNat_inj.1 q)
            omega
          simp [Op.bytesLess, lt, gt, e, e']
theorem less_trans : ∀ a b c : List UInt8, Op.bytesLess a b = true → Op.bytesLess b c = true → Op.bytesLess a c = true := by
  intro a
  induction a with
  | nil => intro b c h k; cases c with
    | nil => simp [Op.bytesLess] at k
    | cons _ _ => rfl
  | cons x r ih =>
    intro b c h k
    cases b with
    | nil => simp [Op.bytesLess] at h
    | cons y m =>
      cases c with
      | nil => simp [Op.bytesLess] at k
      | cons z s =>
        simp only [Op.bytesLess, Bool.or_eq_true, Bool.and_eq_true, decide_eq_true_eq, beq_iff_eq] at h k ⊢
        rcases h with h | ⟨rfl, h⟩
        · rcases k with k | ⟨rfl, k⟩
          · left; rw [UInt8.lt_iff_toNat_lt] at *; omega
          · exact .inl h
        · rcases k with k | ⟨rfl, k⟩
          · exact .inl k
          · exact .inr ⟨rfl, ih m s h k⟩
def ltB (a b : ByteArray) : Bool := Op.bytesLess a.toList b.toList
theorem key_ne {a b : ByteArray} (h : a ≠ b) : (a.toList == b.toList) = false := by rw [eq_texts]; simpa using h
theorem ltB_irrefl (a : ByteArray) : ltB a a = false := less_irrefl _
theorem ltB_trans {a b c : ByteArray} (h : ltB a b = true) (k : ltB b c = true) : ltB a c = true := less_trans _ _ _ h k
theorem ltB_asymm {a b : ByteArray} (h : ltB a b = true) : ltB b a = false := by
  cases k : ltB b a with
  | false => rfl
  | true => have := ltB_trans h k; rw [ltB_irrefl] at this; exact this.symm
theorem ltB_leq (a b : ByteArray) : (ltB a b || a.toList == b.toList) = !(ltB b a) := less_leq _ _
theorem ltB_total {a b : ByteArray} (h : a ≠ b) (k : ltB a b = false) : ltB b a = true := by
  have := ltB_leq a b
  rw [k, key_ne h] at this
  simpa using this.symm
theorem ltB_ne {a b : ByteArray} (h : ltB a b = true) : a ≠ b := fun e => by rw [e, ltB_irrefl] at h; simp at h
end Go.Proofs.YtbilnomafloopaaGreat
