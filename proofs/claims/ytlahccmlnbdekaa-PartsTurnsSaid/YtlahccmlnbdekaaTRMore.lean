/-
  Contracts of the document's step, Of, More.
-/
import Derived.Test.YtlahccmlnbdekaaTMore
namespace Go.Proofs.Ytlahccmlnbdekaa
open Go.ChangeShapes Go.WideShapes Go.ChangeAt Go.RowKit
set_option linter.unusedVariables false

theorem xor32 {r x : Nat} (h : r < 4294967296) (hx : x < 256) : bits .xor .u32 (r : Int) (x : Int) = ((r ^^^ x : Nat) : Int) := u32_xor_nat r x h (by omega)
theorem xorR {r : Nat} (h : r < 4294967296) : bits .xor .u32 ((r : Int) / 2) 2197175160 = ((r / 2 ^^^ poly : Nat) : Int) := xorH h
set_option maxHeartbeats 1000000 in
theorem rstep_any (c x : Nat) (w : World) (hc : c < 4294967296) (hx : x < 256) :
    Calls Try.prog 55 #[.int .u32 c, .int .u8 x] w fun e w' => e = .returned (.int .u32 (stp c x : Nat)) ∧ w = w' := by
  have h0 := xor32 hc hx
  have hl0 : c ^^^ x < 4294967296 := lt_xor hc (by omega)
  go_enter Try.func55, Try.ntmps55
  go_wp2_with fail
  go_loop [0, 5] (fun R I => ∃ i r : Nat, i ≤ 8 ∧ r < 4294967296 ∧ I = .int .i64 i ∧ R = .int .u32 r ∧ Hid (stp c x = t1n (8 - i) r)) (fun _ I => 8 - (intOf I).toNat)
  case atStart => exact ⟨0, c ^^^ x, by omega, hl0, rfl, by go_num, Lib.hid rfl⟩
  case round =>
    obtain ⟨i, r, hi, hr, rfl, rfl, HM⟩ := hrel
    by_cases hlt : i < 8
    · have HM2 : Hid (stp c x = t1n (8 - (i + 1)) (t1 r)) := Lib.hid (by rw [HM.out, show 8 - i = 8 - (i + 1) + 1 by omega, t1n])
      have hl := t1_lt hr
      rcases Nat.mod_two_eq_zero_or_one r with h | h
      · rw [t1_even h] at HM2 hl
        have hm : ((r : Int) % 2 == 1) = false := by
          have : ¬ (r : Int) % 2 = 1 := by omega
          simpa using this
        go_wp2
        go_round
        case rel => exact ⟨i + 1, r / 2, by omega, hl, by go_num, by go_num, HM2⟩
        case measure => simp [intOf]; omega
      · rw [t1_odd h] at HM2 hl
        have hm : ((r : Int) % 2 == 1) = true := by
          have : (r : Int) % 2 = 1 := by omega
          simpa using this
        have hb := xorR hr
        go_wp2
        go_round
        case rel => exact ⟨i + 1, _, by omega, hl, by go_num, by go_num, HM2⟩
        case measure => simp [intOf]; omega
    · rw [show 8 - i = 0 by omega, t1n] at HM
      go_wp2
      go_ret
      exact ⟨by rw [HM.out]; rfl, rfl⟩
set_option maxHeartbeats 1000000 in
theorem rof_any (s : ByteArray) (w : World) (hs : s.size ≤ 5000) :
    Calls Try.prog 30 #[.string s] w fun e w' => e = .returned (.int .u32 (crc (bl s) : Nat)) ∧ w = w' := by
  go_enter Try.func30, Try.ntmps30
  go_wp2_with fail
  go_loop [3, 4] (fun R I => ∃ i r : Nat, i ≤ s.size ∧ r < 4294967296 ∧ I = .int .i64 i ∧ R = .int .u32 r ∧ Hid (reg (4294967295) (bl s) = reg r ((bl s).drop i))) (fun _ I => s.size - (intOf I).toNat)
  case atStart => exact ⟨0, 4294967295, by omega, by omega, rfl, by go_num, Lib.hid (by rw [List.drop_zero])⟩
  case round =>
    obtain ⟨i, r, hi, hr, rfl, rfl, HM⟩ := hrel
    by_cases hlt : i < s.size
    · rw [drop_at s hlt, reg_cons] at HM
      have hx := UInt8.toNat_lt s[i]
      have C := Lib.hid (fun w => rstep_any r s[i].toNat w hr hx)
      have hr2 := stp_lt hr hx
      go_wp2_with fail
      refine (C.out _).mono ?_
      rintro e w1 ⟨rfl, rfl⟩
      go_wp2
      go_round
      case rel => exact ⟨i + 1, _, by omega, hr2, by go_num, by go_num, HM⟩
      case measure => simp [intOf]; omega
    · obtain rfl : i = s.size := by omega
      rw [drop_end, reg_nil] at HM
      have he : Hid ((4294967295 : Int) - (r : Int) = ((crc (bl s) : Nat) : Int)) := Lib.hid (by rw [crc, HM.out]; omega)
      go_wp2
      go_ret
      exact ⟨by rw [← he.out]; rfl, rfl⟩
end Go.Proofs.Ytlahccmlnbdekaa
