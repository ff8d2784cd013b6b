/-
  Contracts of the program's digit, number, Parse, count, Read.
-/
import Derived.Test.YtffhpgdlnohgjaaTNum
namespace Go.Proofs.Ytffhpgdlnohgjaa
open Go.ChangeShapes Go.WideShapes Go.ChangeAt Go.RowKit
set_option linter.unusedVariables false

set_option maxHeartbeats 1000000 in
theorem digit_any (c : UInt8) (w : World) :
    Calls Try.prog 32 #[.int .u8 c.toNat] w fun e w' => e = .returned (.int .u32 (dv c : Nat)) ∧ w = w' := by
  have hc := UInt8.toNat_lt c
  obtain ⟨n, hn⟩ : ∃ n, n = c.toNat := ⟨_, rfl⟩
  unfold dv
  rw [← hn] at hc ⊢
  clear hn
  by_cases h1 : 48 ≤ n
  · by_cases h2 : n ≤ 57
    · rw [if_pos ⟨h1, h2⟩]
      have he : Hid ((n : Int) - 48 = ((n - 48 : Nat) : Int)) := Lib.hid (by omega)
      go_enter Try.func32, Try.ntmps32
      go_wp2
      go_ret
      exact ⟨by rw [← he.out]; rfl, rfl⟩
    · rw [if_neg (fun h => h2 h.2)]
      by_cases h3 : 97 ≤ n
      · by_cases h4 : n ≤ 102
        · rw [if_pos ⟨h3, h4⟩]
          have he : Hid ((n : Int) - 97 + 10 = ((n - 97 + 10 : Nat) : Int)) := Lib.hid (by omega)
          go_enter Try.func32, Try.ntmps32
          go_wp2
          go_ret
          exact ⟨by rw [← he.out]; rfl, rfl⟩
        · rw [if_neg (fun h => h4 h.2)]
          go_enter Try.func32, Try.ntmps32
          go_wp2
          go_ret
          exact ⟨rfl, rfl⟩
      · rw [if_neg (fun h => h3 h.1)]
        go_enter Try.func32, Try.ntmps32
        go_wp2
        go_ret
        exact ⟨rfl, rfl⟩
  · rw [if_neg (fun h => h1 h.1), if_neg (fun h => h1 (by omega))]
    have h3 : ¬ 97 ≤ n := by omega
    go_enter Try.func32, Try.ntmps32
    go_wp2
    go_ret
    exact ⟨rfl, rfl⟩
/-- What number tells. -/
def numV : Option Nat → Value
  | some n => .tuple #[.int .u32 n, .bool true]
  | none => .tuple #[.int .u32 0, .bool false]
set_option maxHeartbeats 1000000 in
theorem number_16 (s : ByteArray) (w : World) (hs : s.size ≤ 5000) :
    Calls Try.prog 26 #[.string s, .int .u32 16] w fun e w' => e = .returned (numV (nb 16 0 (bl s))) ∧ w = w' := by
  go_enter Try.func26, Try.ntmps26
  go_wp2_with fail
  go_loop [6, 11] (fun M I => ∃ i m : Nat, i ≤ s.size ∧ m < 4294967296 ∧ I = .int .i64 i ∧ M = .int .u32 m ∧ Hid (nb 16 0 (bl s) = nb 16 m ((bl s).drop i))) (fun _ I => s.size - (intOf I).toNat)
  case atStart => exact ⟨0, 0, Nat.zero_le _, by omega, rfl, rfl, Lib.hid (by rw [List.drop_zero])⟩
  case round =>
    obtain ⟨i, m, hi, hm, rfl, rfl, HM⟩ := hrel
    by_cases hlt : i < s.size
    · rw [drop_at s hlt, nb] at HM
      have hd := dv_le s[i]
      have C := Lib.hid fun w => digit_any s[i] w
      obtain ⟨d, hd0⟩ : ∃ d, d = dv s[i] := ⟨_, rfl⟩
      rw [← hd0] at HM hd C
      clear hd0
      by_cases h1 : d < 16
      · rw [if_pos h1] at HM
        have he : Hid ((16 * (m : Int) + (d : Int)) % 4294967296 = (((16 * m + d) % 4294967296 : Nat) : Int)) := Lib.hid (by omega)
        have hge : ¬ ((16 : Int) ≤ (d : Int)) := by omega
        have hl : (16 * m + d) % 4294967296 < 4294967296 := Nat.mod_lt _ (by omega)
        go_wp2_with fail
        refine (C.out _).mono ?_
        rintro e w1 ⟨rfl, rfl⟩
        go_wp2
        go_round
        case rel => exact ⟨i + 1, _, by omega, hl, by go_num, by rw [← he.out]; congr 1; omega, HM⟩
        case measure => simp [intOf]; omega
      · rw [if_neg h1] at HM
        have hge : ((16 : Int) ≤ (d : Int)) := by omega
        go_wp2_with fail
        refine (C.out _).mono ?_
        rintro e w1 ⟨rfl, rfl⟩
        go_wp2
        go_ret2
        exact ⟨by rw [HM.out]; rfl, rfl⟩
    · obtain rfl : i = s.size := by omega
      rw [drop_end, nb] at HM
      go_wp2
      go_ret2
      exact ⟨by rw [HM.out]; rfl, rfl⟩
set_option maxHeartbeats 1000000 in
theorem number_10 (s : ByteArray) (w : World) (hs : s.size ≤ 5000) :
    Calls Try.prog 26 #[.string s, .int .u32 10] w fun e w' => e = .returned (numV (nb 10 0 (bl s))) ∧ w = w' := by
  go_enter Try.func26, Try.ntmps26
  go_wp2_with fail
  go_loop [6, 11] (fun M I => ∃ i m : Nat, i ≤ s.size ∧ m < 4294967296 ∧ I = .int .i64 i ∧ M = .int .u32 m ∧ Hid (nb 10 0 (bl s) = nb 10 m ((bl s).drop i))) (fun _ I => s.size - (intOf I).toNat)
  case atStart => exact ⟨0, 0, Nat.zero_le _, by omega, rfl, rfl, Lib.hid (by rw [List.drop_zero])⟩
  case round =>
    obtain ⟨i, m, hi, hm, rfl, rfl, HM⟩ := hrel
    by_cases hlt : i < s.size
    · rw [drop_at s hlt, nb] at HM
      have hd := dv_le s[i]
      have C := Lib.hid fun w => digit_any s[i] w
      obtain ⟨d, hd0⟩ : ∃ d, d = dv s[i] := ⟨_, rfl⟩
      rw [← hd0] at HM hd C
      clear hd0
      by_cases h1 : d < 10
      · rw [if_pos h1] at HM
        have he : Hid ((10 * (m : Int) + (d : Int)) % 4294967296 = (((10 * m + d) % 4294967296 : Nat) : Int)) := Lib.hid (by omega)
        have hge : ¬ ((10 : Int) ≤ (d : Int)) := by omega
        have hl : (10 * m + d) % 4294967296 < 4294967296 := Nat.mod_lt _ (by omega)
        go_wp2_with fail
        refine (C.out _).mono ?_
        rintro e w1 ⟨rfl, rfl⟩
        go_wp2
        go_round
        case rel => exact ⟨i + 1, _, by omega, hl, by go_num, by rw [← he.out]; congr 1; omega, HM⟩
        case measure => simp [intOf]; omega
      · rw [if_neg h1] at HM
        have hge : ((10 : Int) ≤ (d : Int)) := by omega
        go_wp2_with fail
        refine (C.out _).mono ?_
        rintro e w1 ⟨rfl, rfl⟩
        go_wp2
        go_ret2
        exact ⟨by rw [HM.out]; rfl, rfl⟩
    · obtain rfl : i = s.size := by omega
      rw [drop_end, nb] at HM
      go_wp2
      go_ret2
      exact ⟨by rw [HM.out]; rfl, rfl⟩
/-- What Parse tells. -/
def tagV : Option Nat → Value
  | some n => .tuple #[.int .u32 n, .int .i64 0]
  | none => .tuple #[.int .u32 0, .int .i64 2]
set_option maxHeartbeats 1000000 in
theorem parse_any (s : ByteArray) (w : World) (hs : s.size ≤ 5000) :
    Calls Try.prog 16 #[.string s] w fun e w' => e = .returned (tagV (tagP (bl s))) ∧ w = w' := by
  by_cases h8 : s.size = 8
  · have HT : Hid (tagP (bl s) = nb 16 0 (bl s)) := Lib.hid (tag_nb (by rw [bl_length]; exact h8))
    have hn : ((s.size : Int) != 8) = false := by simp [h8]
    have C := Lib.hid fun w => number_16 s w hs
    cases hr : nb 16 0 (bl s) with
    | none =>
      rw [hr] at HT
      rw [hr, numV] at C
      clear hr h8
      go_enter Try.func16, Try.ntmps16
      go_wp2_with fail
      refine (C.out _).mono ?_
      rintro e w1 ⟨rfl, rfl⟩
      go_wp2
      go_ret2
      exact ⟨by rw [HT.out]; rfl, rfl⟩
    | some n =>
      rw [hr] at HT
      rw [hr, numV] at C
      clear hr h8
      go_enter Try.func16, Try.ntmps16
      go_wp2_with fail
      refine (C.out _).mono ?_
      rintro e w1 ⟨rfl, rfl⟩
      go_wp2
      go_ret2
      exact ⟨by rw [HT.out]; rfl, rfl⟩
  · have HT : Hid (tagP (bl s) = none) := Lib.hid (tagP_none_len (by rw [bl_length]; exact h8))
    have hn : ((s.size : Int) != 8) = true := by
      have : ¬ (s.size : Int) = 8 := by omega
      simpa using this
    clear h8
    go_enter Try.func16, Try.ntmps16
    go_wp2
    go_ret2
    exact ⟨by rw [HT.out]; rfl, rfl⟩
/-- What count tells. -/
def cntV : Option Nat → Value
  | some n => .tuple #[.int .i64 n, .bool true]
  | none => .tuple #[.int .i64 0, .bool false]
set_option maxHeartbeats 1000000 in
theorem count_d (s : ByteArray) (w : World) (h1 : 1 ≤ s.size) (hs : s.size ≤ 5000) :
    Calls Try.prog 27 #[.string s] w fun e w' => e = .returned (cntV (cntP (bl s))) ∧ D w w' := by
  have hz : (s.extract 1 s.size).size ≤ 5000 := by rw [size_cut _ (Nat.le_refl _)]; omega
  have C := Lib.hid fun w => number_10 (s.extract 1 s.size) w hz
  have e1 : bl (s.extract 1 s.size) = (bl s).drop 1 := by
    rw [bl_extract, List.take_of_length_le (by rw [List.length_drop, bl_length]; omega)]
  rw [e1] at C
  have HP : cntP (bl s) = cntQ (bl s) := (cntQ_eq _).symm
  rw [cntQ] at HP
  clear e1 hz
  have hx : (1 : Int) ≤ (s.size : Int) := by omega
  cases hr : nb 10 0 ((bl s).drop 1) with
  | none =>
    rw [hr, numV] at C
    rw [hr] at HP
    rw [HP, cntV]
    clear hr HP
    go_enter Try.func27, Try.ntmps27
    go_wp2_with fail
    refine (C.out _).mono ?_
    rintro e w1 ⟨rfl, rfl⟩
    go_wp2
    go_ret2
    exact ⟨rfl, D.refl _⟩
  | some n =>
    have hn := nb_lt hr (by omega)
    rw [hr, numV] at C
    rw [hr] at HP
    clear hr
    have M := Lib.hid fun w => isMany_any n w
    by_cases hm : 1 ≤ n ∧ n ≤ 100
    · have hm2 : decide (1 ≤ (n : Int) ∧ (n : Int) ≤ 100) = true := by simp; omega
      rw [hm2] at M
      have T := Lib.hid fun w => countText_d n w hm.1 hm.2
      by_cases he : cnt n = bl s
      · have hv : (if (1 ≤ n ∧ n ≤ 100) ∧ cnt n = bl s then some n else none) = some n := if_pos ⟨hm, he⟩
        have hq : ((mk (cnt n)).toList == s.toList) = true := by
          rw [eq_texts]; simp; rw [he, mk_bl]
        have HP2 := HP.trans hv
        rw [HP2, cntV]
        clear HP2
        obtain ⟨d, hd⟩ : ∃ d, d = mk (cnt n) := ⟨_, rfl⟩
        rw [← hd] at T hq
        clear hd hv he hm hm2 HP
        go_enter Try.func27, Try.ntmps27
        go_wp2_with fail
        refine (C.out _).mono ?_
        rintro e w1 ⟨rfl, rfl⟩
        go_wp2_with fail
        refine (M.out _).mono ?_
        rintro e w2 ⟨rfl, rfl⟩
        go_wp2_with fail
        refine (T.out _).mono ?_
        rintro e w3 ⟨rfl, q⟩
        go_wp2
        go_ret2
        exact ⟨rfl, q⟩
      · have hv : (if (1 ≤ n ∧ n ≤ 100) ∧ cnt n = bl s then some n else none) = none := if_neg (fun h => he h.2)
        have hq : ((mk (cnt n)).toList == s.toList) = false := by
          rw [eq_texts]; simp; intro e; apply he; rw [← e, bl_mk]
        have HP2 := HP.trans hv
        rw [HP2, cntV]
        clear HP2
        obtain ⟨d, hd⟩ : ∃ d, d = mk (cnt n) := ⟨_, rfl⟩
        rw [← hd] at T hq
        clear hd hv he hm hm2 HP
        go_enter Try.func27, Try.ntmps27
        go_wp2_with fail
        refine (C.out _).mono ?_
        rintro e w1 ⟨rfl, rfl⟩
        go_wp2_with fail
        refine (M.out _).mono ?_
        rintro e w2 ⟨rfl, rfl⟩
        go_wp2_with fail
        refine (T.out _).mono ?_
        rintro e w3 ⟨rfl, q⟩
        go_wp2
        go_ret2
        exact ⟨rfl, q⟩
    · have hm2 : decide (1 ≤ (n : Int) ∧ (n : Int) ≤ 100) = false := by simp; omega
      rw [hm2] at M
      have HP2 : cntP (bl s) = none := HP.trans (if_neg (fun h => hm h.1))
      rw [HP2, cntV]
      clear HP2
      clear hm hm2 HP
      go_enter Try.func27, Try.ntmps27
      go_wp2_with fail
      refine (C.out _).mono ?_
      rintro e w1 ⟨rfl, rfl⟩
      go_wp2_with fail
      refine (M.out _).mono ?_
      rintro e w2 ⟨rfl, rfl⟩
      go_wp2
      go_ret2
      exact ⟨rfl, D.refl _⟩
/-- What Read tells. -/
def readV : Option (Nat × Nat) → Value
  | some (t, n) => .tuple #[.int .u32 t, .int .i64 n, .int .i64 0]
  | none => .tuple #[.int .u32 0, .int .i64 0, .int .i64 2]
theorem cntP_nil : cntP [] = none := rfl
set_option maxHeartbeats 1000000 in
theorem read_d (s : ByteArray) (w : World) (hs : s.size ≤ 5000) :
    Calls Try.prog 18 #[.string s] w fun e w' => e = .returned (readV (readP (bl s))) ∧ D w w' := by
  by_cases h8 : s.size ≤ 8
  · have hx : ¬ ((8 : Int) < (s.size : Int)) := by omega
    have P := Lib.hid fun w => parse_any s w hs
    have HR : readP (bl s) = match tagP (bl s) with | some t => some (t, 0) | none => none := by
      rw [readP]
      cases tagP (bl s) with
      | some t => rfl
      | none =>
        rw [List.drop_of_length_le (by rw [bl_length]; exact h8), cntP_nil]
        cases tagP ((bl s).take 8) <;> rfl
    rw [HR]
    clear HR
    cases hr : tagP (bl s) with
    | none =>
      rw [hr, tagV] at P
      clear hr
      show Calls Try.prog 18 #[.string s] w fun e w' => e = .returned (.tuple #[.int .u32 0, .int .i64 0, .int .i64 2]) ∧ D w w'
      go_enter Try.func18, Try.ntmps18
      go_wp2_with fail
      refine (P.out _).mono ?_
      rintro e w2 ⟨rfl, rfl⟩
      go_wp2
      go_ret3
      exact ⟨rfl, D.refl _⟩
    | some t =>
      rw [hr, tagV] at P
      clear hr
      show Calls Try.prog 18 #[.string s] w fun e w' => e = .returned (.tuple #[.int .u32 t, .int .i64 (0 : Nat), .int .i64 0]) ∧ D w w'
      go_enter Try.func18, Try.ntmps18
      go_wp2_with fail
      refine (P.out _).mono ?_
      rintro e w2 ⟨rfl, rfl⟩
      go_wp2
      go_ret3
      exact ⟨rfl, D.refl _⟩
  · have hx : ((8 : Int) < (s.size : Int)) := by omega
    have z8 : (s.extract 0 8).size ≤ 5000 := by rw [size_cut _ (by omega)]; omega
    have z9 : 1 ≤ (s.extract 8 s.size).size := by rw [size_cut _ (Nat.le_refl _)]; omega
    have z10 : (s.extract 8 s.size).size ≤ 5000 := by rw [size_cut _ (Nat.le_refl _)]; omega
    have P := Lib.hid fun w => parse_any (s.extract 0 8) w z8
    have C := Lib.hid fun w => count_d (s.extract 8 s.size) w z9 z10
    have e1 : bl (s.extract 8 s.size) = (bl s).drop 8 := by
      rw [bl_extract, List.take_of_length_le (by rw [List.length_drop, bl_length]; omega)]
    have e2 : bl (s.extract 0 8) = (bl s).take 8 := by rw [bl_extract, List.drop_zero]
    rw [e1] at C
    rw [e2] at P
    have HR : readP (bl s) = match tagP ((bl s).take 8), cntP ((bl s).drop 8) with | some t, some n => some (t, n) | _, _ => none := by
      rw [readP, tagP_none_len (by rw [bl_length]; omega)]; rfl
    rw [HR]
    clear HR e1 e2 z8 z9 z10
    have hx2 : (8 : Int) ≤ (s.size : Int) := by omega
    cases hr : tagP ((bl s).take 8) with
    | none =>
      rw [hr, tagV] at P
      clear hr
      cases hc : cntP ((bl s).drop 8) with
      | none =>
        rw [hc, cntV] at C
        clear hc
        show Calls Try.prog 18 #[.string s] w fun e w' => e = .returned (.tuple #[.int .u32 0, .int .i64 0, .int .i64 2]) ∧ D w w'
        go_enter Try.func18, Try.ntmps18
        go_wp2_with fail
        refine (C.out _).mono ?_
        rintro e w1 ⟨rfl, q⟩
        go_wp2_with fail
        refine (P.out _).mono ?_
        rintro e w2 ⟨rfl, rfl⟩
        go_wp2
        go_ret3
        exact ⟨rfl, q⟩
      | some n =>
        rw [hc, cntV] at C
        clear hc
        show Calls Try.prog 18 #[.string s] w fun e w' => e = .returned (.tuple #[.int .u32 0, .int .i64 0, .int .i64 2]) ∧ D w w'
        go_enter Try.func18, Try.ntmps18
        go_wp2_with fail
        refine (C.out _).mono ?_
        rintro e w1 ⟨rfl, q⟩
        go_wp2_with fail
        refine (P.out _).mono ?_
        rintro e w2 ⟨rfl, rfl⟩
        go_wp2
        go_ret3
        exact ⟨rfl, q⟩
    | some t =>
      rw [hr, tagV] at P
      clear hr
      cases hc : cntP ((bl s).drop 8) with
      | none =>
        rw [hc, cntV] at C
        clear hc
        show Calls Try.prog 18 #[.string s] w fun e w' => e = .returned (.tuple #[.int .u32 0, .int .i64 0, .int .i64 2]) ∧ D w w'
        go_enter Try.func18, Try.ntmps18
        go_wp2_with fail
        refine (C.out _).mono ?_
        rintro e w1 ⟨rfl, q⟩
        go_wp2_with fail
        refine (P.out _).mono ?_
        rintro e w2 ⟨rfl, rfl⟩
        go_wp2
        go_ret3
        exact ⟨rfl, q⟩
      | some n =>
        rw [hc, cntV] at C
        clear hc
        show Calls Try.prog 18 #[.string s] w fun e w' => e = .returned (.tuple #[.int .u32 t, .int .i64 n, .int .i64 0]) ∧ D w w'
        go_enter Try.func18, Try.ntmps18
        go_wp2_with fail
        refine (C.out _).mono ?_
        rintro e w1 ⟨rfl, q⟩
        go_wp2_with fail
        refine (P.out _).mono ?_
        rintro e w2 ⟨rfl, rfl⟩
        go_wp2
        go_ret3
        exact ⟨rfl, q⟩
theorem count_any (s : ByteArray) (w : World) (h1 : 1 ≤ s.size) (hs : s.size ≤ 5000) :
    Calls Try.prog 27 #[.string s] w fun e w' => e = .returned (cntV (cntP (bl s))) ∧ Q w w' := toQ (count_d s w h1 hs)
theorem read_any (s : ByteArray) (w : World) (hs : s.size ≤ 5000) :
    Calls Try.prog 18 #[.string s] w fun e w' => e = .returned (readV (readP (bl s))) ∧ Q w w' := toQ (read_d s w hs)
end Go.Proofs.Ytffhpgdlnohgjaa
