/-
  Plain facts on numbers as octets, the lowest first.
-/
import Derived.Test.YtbilnomafloopaaGreatCore
import Derived.Lib.VarintMem
import Derived.Laws.Bits64b
namespace Go.Proofs.YtbilnomafloopaaGreat
set_option maxRecDepth 100000
open Go.ChangeShapes Go.WideShapes Go.ChangeAt Go.RowKit

/-- The k lowest octets of a number. -/
def oct : Nat → Nat → List UInt8
  | _, 0 => []
  | n, k + 1 => (n % 256).toUInt8 :: oct (n / 256) k
theorem oct_length (n k : Nat) : (oct n k).length = k := by
  induction k generalizing n with
  | zero => rfl
  | succ k ih => simp [oct, ih]
theorem oct_snoc (n k : Nat) : oct n (k + 1) = oct n k ++ [(n / 256 ^ k % 256).toUInt8] := by
  induction k generalizing n with
  | zero => simp [oct]
  | succ k ih =>
    rw [oct, ih, oct, List.cons_append]
    congr 3
    rw [Nat.div_div_eq_div_mul, Nat.pow_succ, Nat.mul_comm]
/-- The number of octets. -/
def val : List UInt8 → Nat
  | [] => 0
  | c :: r => c.toNat + 256 * val r
theorem val_oct (n k : Nat) : val (oct n k) = n % 256 ^ k := by
  induction k generalizing n with
  | zero => simp [oct, val]; omega
  | succ k ih =>
    rw [oct, val, ih, Lib.toUInt8_toNat (by omega), Nat.pow_succ, Nat.mul_comm (256 ^ k) 256, Nat.mod_mul]
theorem val_lt (l : List UInt8) : val l < 256 ^ l.length := by
  induction l with
  | nil => simp [val]
  | cons c r ih =>
    rw [val, List.length_cons, Nat.pow_succ]
    have := UInt8.toNat_lt c
    omega
theorem val_snoc (l : List UInt8) (c : UInt8) : val (l ++ [c]) = val l + 256 ^ l.length * c.toNat := by
  induction l with
  | nil => simp [val]
  | cons d r ih =>
    rw [List.cons_append, val, ih, val, List.length_cons, Nat.pow_succ, Nat.mul_add, Nat.mul_comm (256 ^ r.length) 256, Nat.mul_assoc, Nat.add_assoc]
theorem val_lt64 (l : List UInt8) (h : l.length ≤ 8) : val l < 18446744073709551616 := by
  have h1 := val_lt l
  have h2 : 256 ^ l.length ≤ 256 ^ 8 := Nat.pow_le_pow_right (by decide) h
  have h3 : (256 : Nat) ^ 8 = 18446744073709551616 := by decide
  omega
theorem pow256 (k : Nat) : 256 ^ k = 2 ^ (8 * k) := by rw [Nat.pow_mul]
theorem val_or (l : List UInt8) (c : UInt8) : val l ||| c.toNat * 2 ^ (8 * l.length) = val (l ++ [c]) := by
  rw [val_snoc, pow256]
  have h := val_lt l
  rw [pow256] at h
  have := Nat.shiftLeft_add_eq_or_of_lt h c.toNat
  rw [Nat.shiftLeft_eq] at this
  rw [Nat.or_comm, ← this, Nat.add_comm, Nat.mul_comm]
theorem take_snoc (s : ByteArray) (k : Nat) (h : k < s.size) : (bl s).take (k + 1) = (bl s).take k ++ [s[k]] := by
  rw [List.take_succ_eq_append_getElem (by rw [bl_length]; exact h)]; rfl
theorem take_length (s : ByteArray) (k : Nat) (h : k ≤ s.size) : ((bl s).take k).length = k := by
  rw [List.length_take, bl_length]; omega
/-- Two numbers with the same octets. -/
theorem oct_inj {a b k : Nat} (ha : a < 256 ^ k) (hb : b < 256 ^ k) (h : oct a k = oct b k) : a = b := by
  have := congrArg val h
  rw [val_oct, val_oct, Nat.mod_eq_of_lt ha, Nat.mod_eq_of_lt hb] at this
  exact this
end Go.Proofs.YtbilnomafloopaaGreat
