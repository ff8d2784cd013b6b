/-
  Contracts of the program's step, More, Of.
-/
import Derived.Test.YtlahccmlnbdekaaTStep
namespace Go.Proofs.Ytlahccmlnbdekaa
open Go.ChangeShapes Go.WideShapes Go.ChangeAt Go.RowKit
set_option linter.unusedVariables false

theorem xorH {r : Nat} (h : r < 4294967296) : bits .xor .u32 ((r : Int) / 2) 2197175160 = ((r / 2 ^^^ poly : Nat) : Int) := by
  rw [← xorP (r := r / 2) (by omega)]; rfl
set_option maxHeartbeats 1000000 in
theorem step_any (x : Nat) (w : World) (hx : x < 256) :
    Calls Try.prog 74 #[.int .u8 x] w fun e w' => e = .returned (.int .u32 (t8 x : Nat)) ∧ w = w' := by
  go_enter Try.func74, Try.ntmps74
  go_wp2_with fail
  go_loop [3, 7] (fun R I => ∃ i r : Nat, i ≤ 8 ∧ r < 4294967296 ∧ I = .int .i64 i ∧ R = .int .u32 r ∧ Hid (t8 x = t1n (8 - i) r)) (fun _ I => 8 - (intOf I).toNat)
  case atStart => exact ⟨0, x, by omega, by omega, rfl, by go_num, Lib.hid rfl⟩
  case round =>
    obtain ⟨i, r, hi, hr, rfl, rfl, HM⟩ := hrel
    by_cases hlt : i < 8
    · have HM2 : Hid (t8 x = t1n (8 - (i + 1)) (t1 r)) := Lib.hid (by rw [HM.out, show 8 - i = 8 - (i + 1) + 1 by omega, t1n])
      have ha := and1 hr
      have hl := t1_lt hr
      rcases Nat.mod_two_eq_zero_or_one r with h | h
      · rw [t1_even h] at HM2 hl
        rw [h] at ha
        go_wp2
        go_round
        case rel => exact ⟨i + 1, r / 2, by omega, hl, by go_num, by go_num, HM2⟩
        case measure => simp [intOf]; omega
      · rw [t1_odd h] at HM2 hl
        rw [h] at ha
        have hb := xorH hr
        go_wp2
        go_round
        case rel => exact ⟨i + 1, _, by omega, hl, by go_num, by go_num, HM2⟩
        case measure => simp [intOf]; omega
    · rw [show 8 - i = 0 by omega, t1n] at HM
      go_wp2
      go_ret
      exact ⟨by rw [HM.out]; rfl, rfl⟩
theorem xor8 {a : Nat} (x : Nat) (hx : x < 256) : bits .xor .u8 ((a : Int) % 256) (x : Int) = ((a % 256 ^^^ x : Nat) : Int) := by
  rw [← u8_xor_nat (a % 256) x (by omega) hx]; rfl
theorem xor_up {a b : Nat} (ha : a < 4294967296) (hb : b < 4294967296) : bits .xor .u32 ((a : Int) / 256) (b : Int) = ((a / 256 ^^^ b : Nat) : Int) := by
  rw [← u32_xor_nat (a / 256) b (by omega) hb]; rfl
theorem stp_low_lt {a x : Nat} (hx : x < 256) : a % 256 ^^^ x < 256 := Nat.xor_lt_two_pow (n := 8) (by omega) (by omega)
theorem drop_at (s : ByteArray) {k : Nat} (h : k < s.size) : (bl s).drop k = s[k] :: (bl s).drop (k + 1) := by
  rw [List.drop_eq_getElem_cons (by rw [bl_length]; exact h)]; rfl
theorem drop_end (s : ByteArray) : (bl s).drop s.size = [] := by rw [List.drop_eq_nil_iff, bl_length]; exact Nat.le_refl _

set_option maxHeartbeats 1000000 in
theorem more_any (t : Nat) (s : ByteArray) (w : World) (ht : t < 4294967296) (hs : s.size ≤ 5000) :
    Calls Try.prog 60 #[.int .u32 t, .string s] w fun e w' => e = .returned (.int .u32 (more t (bl s) : Nat)) ∧ w = w' := by
  have hn := not32 ht
  go_enter Try.func60, Try.ntmps60
  go_wp2_with fail
  go_loop [5, 11] (fun R I => ∃ i r : Nat, i ≤ s.size ∧ r < 4294967296 ∧ I = .int .i64 i ∧ R = .int .u32 r ∧ Hid (reg (4294967295 - t) (bl s) = reg r ((bl s).drop i))) (fun _ I => s.size - (intOf I).toNat)
  case atStart => exact ⟨0, 4294967295 - t, by omega, by omega, rfl, by go_num, Lib.hid (by rw [List.drop_zero])⟩
  case round =>
    obtain ⟨i, r, hi, hr, rfl, rfl, HM⟩ := hrel
    clear hn
    by_cases hlt : i < s.size
    · rw [drop_at s hlt, reg_cons, stp_low] at HM
      have hx := UInt8.toNat_lt s[i]
      have h8 := xor8 (a := r) s[i].toNat hx
      have hl := stp_low_lt (a := r) hx
      have ht8 := t8_lt (c := r % 256 ^^^ s[i].toNat) (by omega)
      have hu := xor_up hr ht8
      have hr2 : r / 256 ^^^ t8 (r % 256 ^^^ s[i].toNat) < 4294967296 := lt_xor (by omega) ht8
      have C := Lib.hid (fun w => step_any _ w hl)
      go_wp2_with fail
      refine (C.out _).mono ?_
      rintro e w1 ⟨rfl, rfl⟩
      go_wp2
      go_round
      case rel => exact ⟨i + 1, _, by omega, hr2, by go_num, by go_num, HM⟩
      case measure => simp [intOf]; omega
    · obtain rfl : i = s.size := by omega
      rw [drop_end, reg_nil] at HM
      have hn := not32 hr
      go_wp2
      go_ret
      exact ⟨by rw [more, HM.out]; rfl, rfl⟩
set_option maxHeartbeats 1000000 in
theorem of_any (s : ByteArray) (w : World) (hs : s.size ≤ 5000) :
    Calls Try.prog 35 #[.string s] w fun e w' => e = .returned (.int .u32 (crc (bl s) : Nat)) ∧ w = w' := by
  have C := Lib.hid (fun w => more_any 0 s w (by omega) hs)
  rw [more_zero] at C
  go_enter Try.func35, Try.ntmps35
  go_wp2_with fail
  refine (C.out _).mono ?_
  rintro e w1 ⟨rfl, rfl⟩
  go_wp2
  go_ret
  exact ⟨rfl, rfl⟩
end Go.Proofs.Ytlahccmlnbdekaa
