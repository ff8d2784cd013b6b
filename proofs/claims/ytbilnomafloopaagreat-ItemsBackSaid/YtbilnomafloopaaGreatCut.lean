/-
  Contracts of the program's cut, cutCount, TakeNum, TakeText.
-/
import Derived.Test.YtbilnomafloopaaGreatOct
import Derived.Laws.Shifts
namespace Go.Proofs.YtbilnomafloopaaGreat
set_option maxRecDepth 100000
open Go.ChangeShapes Go.WideShapes Go.ChangeAt Go.RowKit
set_option linter.unusedVariables false

theorem or_step {s : ByteArray} {m j : Nat} (hm : m = val ((bl s).take j)) (hj : j < s.size) (h8 : j < 8) :
    bits BinOp.or IntKind.u64 (m : Int) (IntKind.u64.wrap (IntKind.u64.wrap (s[j].toNat : Int) * 2 ^ (8 * j))) = ((val ((bl s).take (j + 1)) : Nat) : Int) := by
  have hc := UInt8.toNat_lt s[j]
  have hl := take_length s j (by omega)
  have hp : s[j].toNat * 2 ^ (8 * j) < 18446744073709551616 := by
    have h1 : (2 : Nat) ^ (8 * j) ≤ 2 ^ 56 := Nat.pow_le_pow_right (by decide) (by omega)
    have h2 : s[j].toNat * 2 ^ (8 * j) ≤ 255 * 2 ^ 56 := Nat.mul_le_mul (by omega) h1
    have h3 : 255 * (2 : Nat) ^ 56 < 18446744073709551616 := by decide
    omega
  rw [IntWalk.u64_in (s[j].toNat : Int) (by omega)]
  have e : (s[j].toNat : Int) * 2 ^ (8 * j) = ((s[j].toNat * 2 ^ (8 * j) : Nat) : Int) := by push_cast; rfl
  rw [e, IntWalk.u64_in _ (by omega), bits_or_u64_nat _ _ (by rw [hm]; exact val_lt64 _ (by omega)) hp, hm, take_snoc s j hj]
  have := val_or ((bl s).take j) s[j]
  rw [hl] at this
  rw [this]

set_option maxHeartbeats 1000000 in
theorem cut_any (s : ByteArray) (k : Nat) (w : World) (hs : s.size ≤ 1000000000) (hk : k ≤ s.size) (h8 : k ≤ 8) :
    Calls Tryz.prog 175 #[.string s, .int .i64 k] w fun e w' => e = .returned (.tuple #[.int .u64 (val ((bl s).take k) : Nat), .string (s.extract k s.size), .int .i64 0]) ∧ Q w w' := by
  go_enter Tryz.func175, Tryz.ntmps175
  go_wp2
  go_loop [7, 14] (fun M i => ∃ j m : Nat, j ≤ k ∧ m < 18446744073709551616 ∧ i = .int .i64 j ∧ M = .int .u64 m ∧ Hid (m = val ((bl s).take j))) (fun _ i => k - (intOf i).toNat)
  case atStart => exact ⟨0, 0, Nat.zero_le _, by omega, rfl, rfl, Lib.hid (by simp [val])⟩
  case round =>
    obtain ⟨j, m, hj, hm, rfl, rfl, HM⟩ := hrel
    by_cases hlt : j < k
    · have hjs : j < s.size := by omega
      have HO := Lib.hid (or_step HM.out hjs (by omega))
      go_wp2
      go_round
      case rel => exact ⟨j + 1, _, by omega, val_lt64 ((bl s).take (j + 1)) (by rw [take_length s _ (by omega)]; omega), by go_num, by rw [HO.out], Lib.hid rfl⟩
      case measure => simp [intOf]; omega
    · obtain rfl : j = k := by omega
      go_wp2
      go_region
      go_wp2
      go_ret3
      exact ⟨by rw [HM.out]; rfl, (Q.refl _).drew⟩
set_option maxHeartbeats 1000000 in
theorem cut_short (s : ByteArray) (k : Nat) (w : World) (hs : s.size ≤ 1000000000) (hk : s.size < k) (h8 : k ≤ 8) :
    Calls Tryz.prog 175 #[.string s, .int .i64 k] w fun e w' => e = .returned (.tuple #[.int .u64 0, .string ⟨#[]⟩, .int .i64 3]) ∧ w = w' := by
  go_enter Tryz.func175, Tryz.ntmps175
  go_wp2
  go_ret3
  exact ⟨rfl, rfl⟩

/-- The count with which octets begin. -/
def cnt (s : ByteArray) : Nat := val ((bl s).take 2)
theorem cnt_lt (s : ByteArray) : cnt s < 65536 := by
  have h1 := val_lt ((bl s).take 2)
  have h2 : 256 ^ ((bl s).take 2).length ≤ 256 ^ 2 := Nat.pow_le_pow_right (by decide) (by rw [List.length_take]; omega)
  unfold cnt; omega
/-- What is taken as a count: it, what is behind, and the error's number. -/
def tc (s : ByteArray) : Nat × ByteArray × Nat := if s.size < 2 then (0, ⟨#[]⟩, 3) else if 4000 < cnt s then (0, ⟨#[]⟩, 2) else (cnt s, s.extract 2 s.size, 0)

set_option maxHeartbeats 1000000 in
theorem cutCount_any (s : ByteArray) (w : World) (hs : s.size ≤ 1000000000) {n : Nat} {b : ByteArray} {f : Nat} (h : tc s = (n, b, f)) :
    Calls Tryz.prog 198 #[.string s] w fun e w' => e = .returned (.tuple #[.int .i64 n, .string b, .int .i64 f]) ∧ Q w w' := by
  unfold tc at h
  split at h
  · rename_i h2
    obtain ⟨rfl, rfl, rfl⟩ : 0 = n ∧ (⟨#[]⟩ : ByteArray) = b ∧ 3 = f := by simpa using h
    clear h
    go_enter Tryz.func198, Tryz.ntmps198
    go_wp2_with fail
    refine (cut_short s 2 w hs h2 (by omega)).mono ?_
    rintro e w1 ⟨rfl, rfl⟩
    go_wp2
    go_ret3
    exact ⟨rfl, Q.refl _⟩
  · rename_i h2
    have hc := cnt_lt s
    have HC := Lib.hid (cut_any s 2 w hs (by omega) (by omega))
    have e : val ((bl s).take 2) = cnt s := rfl
    rw [e] at HC
    clear e
    split at h
    · rename_i h4
      obtain ⟨rfl, rfl, rfl⟩ : 0 = n ∧ (⟨#[]⟩ : ByteArray) = b ∧ 2 = f := by simpa using h
      clear h
      generalize cnt s = c at *
      go_enter Tryz.func198, Tryz.ntmps198
      go_wp2_with fail
      refine HC.out.mono ?_
      rintro e w1 ⟨rfl, q⟩
      go_wp2
      go_ret3
      exact ⟨rfl, q⟩
    · rename_i h4
      obtain ⟨rfl, rfl, rfl⟩ : cnt s = n ∧ s.extract 2 s.size = b ∧ 0 = f := by simpa using h
      clear h
      generalize cnt s = c at *
      go_enter Tryz.func198, Tryz.ntmps198
      go_wp2_with fail
      refine HC.out.mono ?_
      rintro e w1 ⟨rfl, q⟩
      go_wp2
      go_ret3
      exact ⟨rfl, q⟩

/-- What is taken as a number. -/
def tn (s : ByteArray) : Nat × ByteArray × Nat := if s.size < 8 then (0, ⟨#[]⟩, 3) else (val ((bl s).take 8), s.extract 8 s.size, 0)
set_option maxHeartbeats 1000000 in
theorem takeNum_any (s : ByteArray) (w : World) (hs : s.size ≤ 1000000000) {n : Nat} {b : ByteArray} {f : Nat} (h : tn s = (n, b, f)) :
    Calls Tryz.prog 120 #[.string s] w fun e w' => e = .returned (.tuple #[.int .u64 n, .string b, .int .i64 f]) ∧ Q w w' := by
  unfold tn at h
  split at h
  · rename_i h2
    obtain ⟨rfl, rfl, rfl⟩ : 0 = n ∧ (⟨#[]⟩ : ByteArray) = b ∧ 3 = f := by simpa using h
    clear h
    go_enter Tryz.func120, Tryz.ntmps120
    go_wp2_with fail
    refine (cut_short s 8 w hs h2 (by omega)).mono ?_
    rintro e w1 ⟨rfl, rfl⟩
    go_wp2
    go_ret3
    exact ⟨rfl, Q.refl _⟩
  · rename_i h2
    have HC := Lib.hid (cut_any s 8 w hs (by omega) (by omega))
    obtain ⟨rfl, rfl, rfl⟩ : val ((bl s).take 8) = n ∧ s.extract 8 s.size = b ∧ 0 = f := by simpa using h
    clear h
    generalize val ((bl s).take 8) = c at *
    go_enter Tryz.func120, Tryz.ntmps120
    go_wp2_with fail
    refine HC.out.mono ?_
    rintro e w1 ⟨rfl, q⟩
    go_wp2
    go_ret3
    exact ⟨rfl, q⟩

/-- What is taken as a text: it, what is behind, and the error's number. -/
def tt (s : ByteArray) : ByteArray × ByteArray × Nat :=
  if s.size < 2 then (⟨#[]⟩, ⟨#[]⟩, 3) else if 4000 < cnt s then (⟨#[]⟩, ⟨#[]⟩, 2) else if s.size < 2 + cnt s then (⟨#[]⟩, ⟨#[]⟩, 3) else (s.extract 2 (2 + cnt s), s.extract (2 + cnt s) s.size, 0)

set_option maxHeartbeats 1000000 in
theorem takeText_any (s : ByteArray) (w : World) (hs : s.size ≤ 1000000000) {x b : ByteArray} {f : Nat} (h : tt s = (x, b, f)) :
    Calls Tryz.prog 200 #[.string s] w fun e w' => e = .returned (.tuple #[.string x, .string b, .int .i64 f]) ∧ Q w w' := by
  unfold tt at h
  split at h
  · rename_i h2
    obtain ⟨rfl, rfl, rfl⟩ : (⟨#[]⟩ : ByteArray) = x ∧ (⟨#[]⟩ : ByteArray) = b ∧ 3 = f := by simpa using h
    clear h
    have HT : Hid (tc s = (0, ⟨#[]⟩, 3)) := Lib.hid (by rw [tc, if_pos h2])
    go_enter Tryz.func200, Tryz.ntmps200
    go_wp2_with fail
    refine (cutCount_any s w hs HT.out).mono ?_
    rintro e w1 ⟨rfl, q⟩
    go_wp2
    go_ret3
    exact ⟨rfl, q⟩
  · rename_i h2
    split at h
    · rename_i h3
      obtain ⟨rfl, rfl, rfl⟩ : (⟨#[]⟩ : ByteArray) = x ∧ (⟨#[]⟩ : ByteArray) = b ∧ 2 = f := by simpa using h
      clear h
      have HT : Hid (tc s = (0, ⟨#[]⟩, 2)) := Lib.hid (by rw [tc, if_neg h2, if_pos h3])
      go_enter Tryz.func200, Tryz.ntmps200
      go_wp2_with fail
      refine (cutCount_any s w hs HT.out).mono ?_
      rintro e w1 ⟨rfl, q⟩
      go_wp2
      go_ret3
      exact ⟨rfl, q⟩
    · rename_i h3
      have HT : Hid (tc s = (cnt s, s.extract 2 s.size, 0)) := Lib.hid (by rw [tc, if_neg h2, if_neg h3])
      have hz : (s.extract 2 s.size).size = s.size - 2 := size_cut s (Nat.le_refl _)
      split at h
      · rename_i h4
        obtain ⟨rfl, rfl, rfl⟩ : (⟨#[]⟩ : ByteArray) = x ∧ (⟨#[]⟩ : ByteArray) = b ∧ 3 = f := by simpa using h
        clear h
        generalize cnt s = c at *
        obtain ⟨r, hr⟩ : ∃ r, r = s.extract 2 s.size := ⟨_, rfl⟩
        rw [← hr] at HT hz
        clear hr
        have hz' : r.size < c := by omega
        clear hz
        go_enter Tryz.func200, Tryz.ntmps200
        go_wp2_with fail
        refine (cutCount_any s w hs HT.out).mono ?_
        rintro e w1 ⟨rfl, q⟩
        go_wp2
        go_ret3
        exact ⟨rfl, q⟩
      · rename_i h4
        have e1 : s.extract 2 (2 + cnt s) = (s.extract 2 s.size).extract 0 (cnt s) := by rw [cut_cut, Nat.min_eq_left (by omega)]
        have e2 : s.extract (2 + cnt s) s.size = (s.extract 2 s.size).extract (cnt s) (s.extract 2 s.size).size := by rw [cut_cut, hz]; congr 1; omega
        rw [e1, e2] at h
        obtain ⟨r, hr⟩ : ∃ r, r = s.extract 2 s.size := ⟨_, rfl⟩
        rw [← hr] at HT hz h
        clear hr e1 e2
        obtain ⟨rfl, rfl, rfl⟩ : r.extract 0 (cnt s) = x ∧ r.extract (cnt s) r.size = b ∧ 0 = f := by simpa using h
        clear h
        generalize cnt s = c at *
        have hz' : c ≤ r.size := by omega
        have hz2 : r.size ≤ 1000000000 := by omega
        clear hz
        go_enter Tryz.func200, Tryz.ntmps200
        go_wp2_with fail
        refine (cutCount_any s w hs HT.out).mono ?_
        rintro e w1 ⟨rfl, q⟩
        go_wp2
        go_region
        go_wp2
        go_ret3
        exact ⟨rfl, q.drew⟩
end Go.Proofs.YtbilnomafloopaaGreat
