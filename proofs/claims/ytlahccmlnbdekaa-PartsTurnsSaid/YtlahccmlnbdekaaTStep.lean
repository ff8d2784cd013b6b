/-
  Contracts of the register: the program's step, More, Of, and the document's step, Of, More.
-/
import Derived.Test.YtlahccmlnbdekaaTMath
import Derived.Laws.BitsAllLaws
namespace Go.Proofs.Ytlahccmlnbdekaa
open Go.ChangeShapes Go.WideShapes Go.ChangeAt Go.RowKit
set_option linter.unusedVariables false

theorem and1 {r : Nat} (h : r < 4294967296) : bits .and .u32 (r : Int) 1 = ((r % 2 : Nat) : Int) := by
  have := u32_and_nat r 1 h (by omega)
  rw [Nat.and_one_is_mod] at this
  exact this
theorem xorP {r : Nat} (h : r < 4294967296) : bits .xor .u32 (r : Int) 2197175160 = ((r ^^^ poly : Nat) : Int) := u32_xor_nat r 2197175160 h (by omega)
theorem not32 {r : Nat} (h : r < 4294967296) : bits .xor .u32 IntKind.u32.max (r : Int) = ((4294967295 - r : Nat) : Int) := by
  rw [flip h, show IntKind.u32.max = ((4294967295 : Nat) : Int) by decide]; exact u32_xor_nat 4294967295 r (by omega) h
/-- So many bits more. -/
def t1n : Nat → Nat → Nat
  | 0, c => c
  | k + 1, c => t1n k (t1 c)
theorem t8_t1n (c : Nat) : t8 c = t1n 8 c := rfl
theorem t1_odd {c : Nat} (h : c % 2 = 1) : t1 c = (c / 2) ^^^ poly := by rw [t1, if_pos h]
theorem t1_even {c : Nat} (h : c % 2 = 0) : t1 c = c / 2 := by rw [t1, if_neg (by omega)]
theorem t8_high (h : Nat) : t8 (256 * h) = h := by
  have e : ∀ m, t1 (2 * m) = m := fun m => by rw [t1_even (by omega)]; omega
  rw [show 256 * h = 2 * (2 * (2 * (2 * (2 * (2 * (2 * (2 * h))))))) by omega, t8]
  simp only [e]
theorem split256 (c : Nat) : c = (256 * (c / 256)) ^^^ (c % 256) := by
  apply Nat.eq_of_testBit_eq
  intro i
  rw [Nat.testBit_xor, show 256 * (c / 256) = 2 ^ 8 * (c / 256) by rfl, Nat.testBit_two_pow_mul, show c % 256 = c % 2 ^ 8 by rfl, Nat.testBit_mod_two_pow, show c / 256 = c / 2 ^ 8 by rfl, Nat.testBit_div_two_pow]
  by_cases h : i < 8
  · have : ¬ 8 ≤ i := by omega
    simp [h, this]
  · have h2 : 8 ≤ i := by omega
    simp [h, h2]
/-- An octet's step by what its lowest bits do. -/
theorem stp_low (c x : Nat) : stp c x = (c / 256) ^^^ t8 ((c % 256) ^^^ x) := by
  rw [stp]
  conv => lhs; rw [split256 c]
  rw [Nat.xor_assoc, t8_xor, t8_high]
end Go.Proofs.Ytlahccmlnbdekaa
