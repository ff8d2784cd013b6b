/-
  Contracts of block's small functions: how many blocks, last octets; and of the document's.
-/
import Derived.Test.YtpcanlafbcdmcaaKPlain2
import Derived.Test.YtpcanlafbcdmcaaDee
import Derived.Laws.ResultCell
import Derived.Laws.StructEq
import Derived.Laws.Shifts
import Derived.Laws.ShiftsVarLaws
import Derived.Laws.Bits
import Derived.Laws.BitsLemmas
import Derived.Deep.DeepCutAuto
namespace Go.Proofs.Ytpcanlafbcdmcaa
set_option maxRecDepth 100000
open Go.ChangeShapes Go.WideShapes Go.ChangeAt Go.RowKit
set_option linter.unusedVariables false
set_option linter.unusedSimpArgs false
set_option maxRecDepth 100000

/-- How many blocks, of any number. -/
def manyI (n : Int) : Nat := if 0 ≤ n then manyK n.toNat else 0
theorem manyI_nat (n : Nat) : manyI (n : Int) = manyK n := by rw [manyI, if_pos (by omega)]; rfl
set_option maxHeartbeats 4000000 in
theorem many_any (n : Int) (w : World) (hn : -9223372036854775808 ≤ n ∧ n ≤ 9223372036854775807) : Calls Try.prog 12 #[.int .i64 n] w fun e w' => e = .returned (.int .i64 (manyI n : Nat)) ∧ w' = w := by
  by_cases h : n < 0
  · have HV : Hid (manyI n = 0) := Lib.hid (by rw [manyI, if_neg (by omega)])
    go_enter Try.func12, Try.ntmps12
    go_wp2
    go_ret
    exact ⟨by rw [HV.out]; rfl, rfl⟩
  · by_cases h2 : 12000 < n
    · have HV : Hid (manyI n = 0) := Lib.hid (by rw [manyI, if_pos (by omega), manyK, if_neg (by omega)])
      go_enter Try.func12, Try.ntmps12
      go_wp2
      go_ret
      exact ⟨by rw [HV.out]; rfl, rfl⟩
    · obtain ⟨m, rfl⟩ : ∃ m : Nat, n = m := ⟨n.toNat, by omega⟩
      obtain ⟨k, hk⟩ : ∃ k, k = manyI (m : Int) := ⟨_, rfl⟩
      have HV : Hid (manyI (m : Int) = k) := Lib.hid hk.symm
      rw [manyI_nat, manyK, if_pos (by omega)] at hk
      have e4 : (2 + (m : Int) + 60 - 1).tdiv 60 = (k : Int) := by
        rw [show 2 + (m : Int) + 60 - 1 = ((m + 61 : Nat) : Int) by omega, show (60 : Int) = ((60 : Nat) : Int) by rfl, ← Int.ofNat_tdiv, hk]
      have h3 : ¬ (12000 : Int) < (m : Int) := h2
      have hk2 : k ≤ 300 := by omega
      clear hk
      go_enter Try.func12, Try.ntmps12
      go_wp2
      go_ret
      exact ⟨by rw [HV.out]; rfl, rfl⟩
set_option maxHeartbeats 4000000 in
theorem rmany_any (n : Int) (w : World) (hn : -9223372036854775808 ≤ n ∧ n ≤ 9223372036854775807) : Calls Try.prog 13 #[.int .i64 n] w fun e w' => e = .returned (.int .i64 (manyI n : Nat)) ∧ D w w' := by
  by_cases h : n < 0
  · have HV : Hid (manyI n = 0) := Lib.hid (by rw [manyI, if_neg (by omega)])
    go_enter Try.func13, Try.ntmps13
    go_wp2
    go_ret
    exact ⟨by rw [HV.out]; rfl, D.refl _⟩
  · by_cases h2 : 12000 < n
    · have HV : Hid (manyI n = 0) := Lib.hid (by rw [manyI, if_pos (by omega), manyK, if_neg (by omega)])
      go_enter Try.func13, Try.ntmps13
      go_wp2
      go_ret
      exact ⟨by rw [HV.out]; rfl, D.refl _⟩
    · obtain ⟨m, rfl⟩ : ∃ m : Nat, n = m := ⟨n.toNat, by omega⟩
      obtain ⟨k, hk⟩ : ∃ k, k = manyI (m : Int) := ⟨_, rfl⟩
      have HV : Hid (manyI (m : Int) = k) := Lib.hid hk.symm
      rw [manyI_nat, manyK, if_pos (by omega)] at hk
      have h3 : ¬ (12000 : Int) < (m : Int) := h2
      have hm : m ≤ 12000 := by omega
      have HK : Hid (k = (m + 61) / 60) := Lib.hid hk
      clear hk
      go_enter Try.func13, Try.ntmps13
      go_wp2
      go_loopw [3, 4] (fun K H wr => ∃ j : Nat, 1 ≤ j ∧ j ≤ (m + 61) / 60 ∧ K = .int .i64 (j : Nat) ∧ H = .int .i64 (58 + 60 * (j - 1) : Nat) ∧ D w wr) (fun K _ _ => 300 - (intOf K).toNat)
      case atStart => exact ⟨1, Nat.le_refl _, by omega, rfl, rfl, D.refl _⟩
      case round =>
        obtain ⟨j, hj1, hj2, rfl, rfl, hd⟩ := hrel
        by_cases hlt : 58 + 60 * (j - 1) < m
        · have hlt' : ((58 + 60 * (j - 1) : Nat) : Int) < (m : Int) := by omega
          go_wp2
          go_roundw
          case rel => exact ⟨j + 1, by omega, by omega, by go_num, by (congr 1; go_num), hd⟩
          case measure => simp [intOf]; omega
        · have hge : ¬ ((58 + 60 * (j - 1) : Nat) : Int) < (m : Int) := by omega
          have HJ : Hid (j = k) := Lib.hid (by rw [HK.out]; omega)
          go_wp2
          go_ret
          exact ⟨by rw [HV.out, HJ.out]; rfl, hd⟩
end Go.Proofs.Ytpcanlafbcdmcaa
