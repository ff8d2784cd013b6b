/-
  Contracts of the document's Parse and Read.
-/
import Derived.Test.YtffhpgdlnohgjaaTRText
import Derived.Deep.RegionWith
namespace Go.Proofs.Ytffhpgdlnohgjaa
open Go.ChangeShapes Go.WideShapes Go.ChangeAt Go.RowKit
set_option linter.unusedVariables false

set_option maxHeartbeats 1000000 in
theorem rparse_yes (s : ByteArray) (w : World) (h8 : s.size = 8) (h : hexk 8 (rawv (bl s)) = bl s) :
    Calls Try.prog 17 #[.string s] w fun e w' => e = .returned (numV (some (rawv (bl s)))) ∧ Q w w' := by
    have hn : ((s.size : Int) == 8) = true := by simp [h8]
    have hs : s.size ≤ 5000 := by omega
    have hq : ((mk (hexk 8 (rawv (bl s)))).toList == s.toList) = true := by rw [eq_texts]; simp; rw [h, mk_bl]
    clear h h8
    have T := Lib.hid fun w => rtext_any (rawv (bl s)) w (rawv_lt _)
    obtain ⟨V, hV⟩ : ∃ V, V = rawv (bl s) := ⟨_, rfl⟩
    obtain ⟨d, hd⟩ : ∃ d, d = mk (hexk 8 (rawv (bl s))) := ⟨_, rfl⟩
    rw [← hd, ← hV] at T
    rw [← hd] at hq
    rw [← hV]
    have HV := Lib.hid hV
    clear hd hV
    show Calls Try.prog 17 #[.string s] w fun e w' => e = .returned (.tuple #[.int .u32 (V : Nat), .bool true]) ∧ Q w w'
    go_enter Try.func17, Try.ntmps17
    go_wp2_with fail
    go_loop [4, 5] (fun M I => ∃ i m : Nat, i ≤ s.size ∧ m < 4294967296 ∧ I = .int .i64 i ∧ M = .int .u32 m ∧ Hid (rawv (bl s) = ((bl s).drop i).foldl rstep m)) (fun _ I => s.size - (intOf I).toNat)
    case atStart => exact ⟨0, 0, Nat.zero_le _, by omega, rfl, rfl, Lib.hid (by rw [List.drop_zero]; rfl)⟩
    case round =>
      obtain ⟨i, m, hi, hm, rfl, rfl, HM⟩ := hrel
      by_cases hlt : i < s.size
      · rw [drop_at s hlt, List.foldl_cons] at HM
        have hx := UInt8.toNat_lt s[i]
        by_cases h1 : 48 ≤ s[i].toNat ∧ s[i].toNat ≤ 57
        · obtain ⟨h2, h3⟩ := h1
          have he : Hid (((16 * (m : Int) + ((s[i].toNat : Nat) : Int) - 48) % 4294967296) = ((rstep m s[i] : Nat) : Int)) := Lib.hid (by rw [rstep, rv, if_pos ⟨h2, h3⟩]; omega)
          have hl : rstep m s[i] < 4294967296 := Nat.mod_lt _ (by omega)
          obtain ⟨r, hr⟩ : ∃ r, r = rstep m s[i] := ⟨_, rfl⟩
          rw [← hr] at he hl HM
          clear hr
          go_wp2
          go_round
          case rel => exact ⟨i + 1, r, by omega, hl, by go_num, by rw [← he.out]; congr 1; omega, HM⟩
          case measure => simp [intOf]; omega
        · by_cases h2 : 48 ≤ s[i].toNat
          · have h3 : ¬ s[i].toNat ≤ 57 := fun h => h1 ⟨h2, h⟩
            clear h1
            have he : Hid (((16 * (m : Int) + ((s[i].toNat : Nat) : Int) - 87) % 4294967296) = ((rstep m s[i] : Nat) : Int)) := Lib.hid (by rw [rstep, rv, if_neg (fun h => h3 h.2)]; omega)
            have hl : rstep m s[i] < 4294967296 := Nat.mod_lt _ (by omega)
            obtain ⟨r, hr⟩ : ∃ r, r = rstep m s[i] := ⟨_, rfl⟩
            rw [← hr] at he hl HM
            clear hr
            go_wp2
            go_round
            case rel => exact ⟨i + 1, r, by omega, hl, by go_num, by rw [← he.out]; congr 1; omega, HM⟩
            case measure => simp [intOf]; omega
          · clear h1
            have he : Hid (((16 * (m : Int) + ((s[i].toNat : Nat) : Int) - 87) % 4294967296) = ((rstep m s[i] : Nat) : Int)) := Lib.hid (by rw [rstep, rv, if_neg (fun h => h2 h.1)]; omega)
            have hl : rstep m s[i] < 4294967296 := Nat.mod_lt _ (by omega)
            obtain ⟨r, hr⟩ : ∃ r, r = rstep m s[i] := ⟨_, rfl⟩
            rw [← hr] at he hl HM
            clear hr
            go_wp2
            go_round
            case rel => exact ⟨i + 1, r, by omega, hl, by go_num, by rw [← he.out]; congr 1; omega, HM⟩
            case measure => simp [intOf]; omega
      · obtain rfl : i = s.size := by omega
        rw [drop_end, List.foldl_nil] at HM
        have HW : Hid (V = m) := Lib.hid (HV.out.trans HM.out)
        obtain rfl := HW.out
        go_wp2_with fail
        refine (T.out _).mono ?_
        rintro e w1 ⟨rfl, q⟩
        go_wp2
        go_ret2
        exact ⟨rfl, q⟩

set_option maxHeartbeats 1000000 in
theorem rparse_no (s : ByteArray) (w : World) (h8 : s.size = 8) (h : ¬ hexk 8 (rawv (bl s)) = bl s) :
    Calls Try.prog 17 #[.string s] w fun e w' => e = .returned (numV none) ∧ Q w w' := by
    have hn : ((s.size : Int) == 8) = true := by simp [h8]
    have hs : s.size ≤ 5000 := by omega
    have hq : ((mk (hexk 8 (rawv (bl s)))).toList == s.toList) = false := by rw [eq_texts]; simp; intro e; apply h; exact (bl_mk _).symm.trans (congrArg bl e)
    clear h h8
    have T := Lib.hid fun w => rtext_any (rawv (bl s)) w (rawv_lt _)
    obtain ⟨V, hV⟩ : ∃ V, V = rawv (bl s) := ⟨_, rfl⟩
    obtain ⟨d, hd⟩ : ∃ d, d = mk (hexk 8 (rawv (bl s))) := ⟨_, rfl⟩
    rw [← hd, ← hV] at T
    rw [← hd] at hq
    have HV := Lib.hid hV
    clear hd hV
    show Calls Try.prog 17 #[.string s] w fun e w' => e = .returned (.tuple #[.int .u32 0, .bool false]) ∧ Q w w'
    go_enter Try.func17, Try.ntmps17
    go_wp2_with fail
    go_loop [4, 5] (fun M I => ∃ i m : Nat, i ≤ s.size ∧ m < 4294967296 ∧ I = .int .i64 i ∧ M = .int .u32 m ∧ Hid (rawv (bl s) = ((bl s).drop i).foldl rstep m)) (fun _ I => s.size - (intOf I).toNat)
    case atStart => exact ⟨0, 0, Nat.zero_le _, by omega, rfl, rfl, Lib.hid (by rw [List.drop_zero]; rfl)⟩
    case round =>
      obtain ⟨i, m, hi, hm, rfl, rfl, HM⟩ := hrel
      by_cases hlt : i < s.size
      · rw [drop_at s hlt, List.foldl_cons] at HM
        have hx := UInt8.toNat_lt s[i]
        by_cases h1 : 48 ≤ s[i].toNat ∧ s[i].toNat ≤ 57
        · obtain ⟨h2, h3⟩ := h1
          have he : Hid (((16 * (m : Int) + ((s[i].toNat : Nat) : Int) - 48) % 4294967296) = ((rstep m s[i] : Nat) : Int)) := Lib.hid (by rw [rstep, rv, if_pos ⟨h2, h3⟩]; omega)
          have hl : rstep m s[i] < 4294967296 := Nat.mod_lt _ (by omega)
          obtain ⟨r, hr⟩ : ∃ r, r = rstep m s[i] := ⟨_, rfl⟩
          rw [← hr] at he hl HM
          clear hr
          go_wp2
          go_round
          case rel => exact ⟨i + 1, r, by omega, hl, by go_num, by rw [← he.out]; congr 1; omega, HM⟩
          case measure => simp [intOf]; omega
        · by_cases h2 : 48 ≤ s[i].toNat
          · have h3 : ¬ s[i].toNat ≤ 57 := fun h => h1 ⟨h2, h⟩
            clear h1
            have he : Hid (((16 * (m : Int) + ((s[i].toNat : Nat) : Int) - 87) % 4294967296) = ((rstep m s[i] : Nat) : Int)) := Lib.hid (by rw [rstep, rv, if_neg (fun h => h3 h.2)]; omega)
            have hl : rstep m s[i] < 4294967296 := Nat.mod_lt _ (by omega)
            obtain ⟨r, hr⟩ : ∃ r, r = rstep m s[i] := ⟨_, rfl⟩
            rw [← hr] at he hl HM
            clear hr
            go_wp2
            go_round
            case rel => exact ⟨i + 1, r, by omega, hl, by go_num, by rw [← he.out]; congr 1; omega, HM⟩
            case measure => simp [intOf]; omega
          · clear h1
            have he : Hid (((16 * (m : Int) + ((s[i].toNat : Nat) : Int) - 87) % 4294967296) = ((rstep m s[i] : Nat) : Int)) := Lib.hid (by rw [rstep, rv, if_neg (fun h => h2 h.1)]; omega)
            have hl : rstep m s[i] < 4294967296 := Nat.mod_lt _ (by omega)
            obtain ⟨r, hr⟩ : ∃ r, r = rstep m s[i] := ⟨_, rfl⟩
            rw [← hr] at he hl HM
            clear hr
            go_wp2
            go_round
            case rel => exact ⟨i + 1, r, by omega, hl, by go_num, by rw [← he.out]; congr 1; omega, HM⟩
            case measure => simp [intOf]; omega
      · obtain rfl : i = s.size := by omega
        rw [drop_end, List.foldl_nil] at HM
        have HW : Hid (V = m) := Lib.hid (HV.out.trans HM.out)
        obtain rfl := HW.out
        go_wp2_with fail
        refine (T.out _).mono ?_
        rintro e w1 ⟨rfl, q⟩
        go_wp2
        go_ret2
        exact ⟨rfl, q⟩

set_option maxHeartbeats 1000000 in
theorem rparse_any (s : ByteArray) (w : World) (hs : s.size ≤ 5000) :
    Calls Try.prog 17 #[.string s] w fun e w' => e = .returned (numV (tagP (bl s))) ∧ Q w w' := by
  by_cases h8 : s.size = 8
  · by_cases h : hexk 8 (rawv (bl s)) = bl s
    · rw [tagP, if_pos h]; exact rparse_yes s w h8 h
    · rw [tagP, if_neg h]; exact rparse_no s w h8 h
  · have hn : ((s.size : Int) == 8) = false := by
      have : ¬ (s.size : Int) = 8 := by omega
      simpa using this
    have T := Lib.hid fun w => rtext_any 0 w (by omega)
    have hq : ((mk (hexk 8 0)).toList == s.toList) = false := by
      rw [eq_texts]; simp; rintro rfl; exact h8 rfl
    rw [tagP_none_len (by rw [bl_length]; exact h8)]
    show Calls Try.prog 17 #[.string s] w fun e w' => e = .returned (.tuple #[.int .u32 0, .bool false]) ∧ Q w w'
    obtain ⟨d, hd⟩ : ∃ d, d = mk (hexk 8 0) := ⟨_, rfl⟩
    rw [← hd] at T hq
    clear hd h8
    go_enter Try.func17, Try.ntmps17
    go_wp2_with fail
    go_loop [4, 5] (fun M I => ∃ i m : Nat, i ≤ s.size ∧ m < 4294967296 ∧ m = 0 ∧ I = .int .i64 i ∧ M = .int .u32 m ∧ Hid True) (fun _ I => s.size - (intOf I).toNat)
    case atStart => exact ⟨0, 0, Nat.zero_le _, by omega, rfl, rfl, rfl, Lib.hid trivial⟩
    case round =>
      obtain ⟨i, m, hi, hm, h0, rfl, rfl, -⟩ := hrel
      subst h0
      by_cases hlt : (i : Int) < s.size
      · go_wp2_with fail
        refine (T.out _).mono ?_
        rintro e w1 ⟨rfl, q⟩
        go_wp2
        go_ret2
        exact ⟨rfl, q⟩
      · go_wp2_with fail
        refine (T.out _).mono ?_
        rintro e w1 ⟨rfl, q⟩
        go_wp2
        go_ret2
        exact ⟨rfl, q⟩
/-- What the document's Read tells. -/
def rreadV : Option (Nat × Nat) → Value
  | some (t, n) => .tuple #[.int .u32 t, .int .i64 n, .bool true]
  | none => .tuple #[.int .u32 0, .int .i64 0, .bool false]
theorem no_cnt {l : List UInt8} (h : ∀ m, 1 ≤ m → m ≤ 100 → cnt m ≠ l) : cntP l = none := by
  cases e : cntP l with
  | none => rfl
  | some n =>
    obtain ⟨h1, h2⟩ := cntP_iff.1 e
    exact absurd h2.symm (h n h1.1 h1.2)
set_option maxHeartbeats 2000000 in
theorem rread_any (s : ByteArray) (w : World) (hs : s.size ≤ 5000) :
    Calls Try.prog 19 #[.string s] w fun e w' => e = .returned (rreadV (readP (bl s))) ∧ Q w w' := by
  have P := Lib.hid fun w => rparse_any s w hs
  cases hr : tagP (bl s) with
  | some t =>
    have HR : readP (bl s) = some (t, 0) := by rw [readP, hr]
    rw [hr, numV] at P
    rw [HR]
    show Calls Try.prog 19 #[.string s] w fun e w' => e = .returned (.tuple #[.int .u32 t, .int .i64 0, .bool true]) ∧ Q w w'
    clear hr HR
    go_enter Try.func19, Try.ntmps19
    go_wp2_with fail
    refine (P.out _).mono ?_
    rintro e w1 ⟨rfl, q⟩
    go_wp2
    go_ret3
    exact ⟨rfl, q⟩
  | none =>
    rw [hr, numV] at P
    by_cases h8 : s.size < 8
    · have HR : readP (bl s) = none := by
        rw [readP, hr]
        simp only []
        rw [List.drop_of_length_le (by rw [bl_length]; omega), cntP_nil]
        cases tagP ((bl s).take 8) <;> rfl
      rw [HR]
      show Calls Try.prog 19 #[.string s] w fun e w' => e = .returned (.tuple #[.int .u32 0, .int .i64 0, .bool false]) ∧ Q w w'
      have hx : (s.size : Int) < 8 := by omega
      clear hr HR h8
      go_enter Try.func19, Try.ntmps19
      go_wp2_with fail
      refine (P.out _).mono ?_
      rintro e w1 ⟨rfl, q⟩
      go_wp2
      go_ret3
      exact ⟨rfl, q⟩
    · have HR : readP (bl s) = match tagP ((bl s).take 8), cntP ((bl s).drop 8) with | some t, some n => some (t, n) | _, _ => none := by
        rw [readP, hr]; rfl
      have z8 : (s.extract 0 8).size ≤ 5000 := by rw [size_cut _ (by omega)]; omega
      have P2 := Lib.hid fun w => rparse_any (s.extract 0 8) w z8
      have e2 : bl (s.extract 0 8) = (bl s).take 8 := by rw [bl_extract, List.drop_zero]
      have e1 : bl (s.extract 8 s.size) = (bl s).drop 8 := by
        rw [bl_extract, List.take_of_length_le (by rw [List.length_drop, bl_length]; omega)]
      rw [e2] at P2
      have hx : ¬ (s.size : Int) < 8 := by omega
      have hx2 : (8 : Int) ≤ (s.size : Int) := by omega
      cases hp : tagP ((bl s).take 8) with
      | none =>
        rw [hp] at HR P2
        rw [numV] at P2
        have HR2 : readP (bl s) = none := HR
        rw [HR2]
        show Calls Try.prog 19 #[.string s] w fun e w' => e = .returned (.tuple #[.int .u32 0, .int .i64 0, .bool false]) ∧ Q w w'
        clear hr HR HR2 h8 hp e1 e2
        go_enter Try.func19, Try.ntmps19
        go_wp2_with fail
        refine (P.out _).mono ?_
        rintro e w1 ⟨rfl, q⟩
        go_wp2_with fail
        refine (P2.out _).mono ?_
        rintro e w2 ⟨rfl, q2⟩
        go_wp2_with fail
        go_loopw [9] (fun I wr => ∃ i : Nat, i ≤ 101 ∧ I = .int .i64 i ∧ Q w wr) (fun I _ => 101 - (intOf I).toNat)
        case atStart => exact ⟨1, by omega, rfl, q.trans q2⟩
        case round =>
          obtain ⟨i, hi, rfl, q3⟩ := hrel
          by_cases hlt : (i : Int) ≤ 100
          · go_wp2
            go_quiet (fail)
            go_wp2
            go_roundw
            case rel => exact ⟨i + 1, by omega, by go_num, q3.drewN _⟩
            case measure => simp [intOf]; omega
          · go_wp2
            go_ret3
            exact ⟨rfl, q3⟩
      | some t =>
        rw [hp] at HR P2
        rw [numV] at P2
        have D : ∀ n, 1 ≤ n → n ≤ 100 → ∀ w, Calls Try.prog 28 #[.int .i64 (n : Nat)] w fun e w' => e = .returned (.string (mk (cnt n))) ∧ Q w w' := fun n a b w => rcount_any n w a b
        have KD := Lib.hid D
        obtain ⟨A, hA⟩ : ∃ A, A = readP (bl s) := ⟨_, rfl⟩
        rw [← hA]
        have HA := Lib.hid (hA.trans HR)
        clear hr HR h8 hp e2 D hA
        have E1 := Lib.hid e1
        clear e1
        go_enter Try.func19, Try.ntmps19
        go_wp2_with fail
        refine (P.out _).mono ?_
        rintro e w1 ⟨rfl, q⟩
        go_wp2_with fail
        refine (P2.out _).mono ?_
        rintro e w2 ⟨rfl, q2⟩
        go_wp2_with fail
        go_loopw [9] (fun I wr => ∃ i : Nat, i ≤ 101 ∧ I = .int .i64 i ∧ 1 ≤ i ∧ Hid (∀ m, 1 ≤ m → m < i → cnt m ≠ (bl s).drop 8) ∧ Q w wr) (fun I _ => 101 - (intOf I).toNat)
        case atStart => exact ⟨1, by omega, rfl, by omega, Lib.hid (fun m a b => by omega), q.trans q2⟩
        case round =>
          obtain ⟨i, hi, rfl, hi1, HM, q3⟩ := hrel
          by_cases hlt : (i : Int) ≤ 100
          · have KD2 := Lib.hid (KD.out i hi1 (by omega))
            by_cases he : cnt i = (bl s).drop 8
            · have hq : ((s.extract 8 s.size).toList == (mk (cnt i)).toList) = true := by
                rw [eq_texts]; simp; apply bl_inj; rw [E1.out, bl_mk, he]
              have HV : Hid (A = some (t, i)) := Lib.hid (by rw [HA.out, cntP_iff.2 ⟨⟨hi1, by omega⟩, he.symm⟩])
              obtain ⟨d, hd⟩ : ∃ d, d = mk (cnt i) := ⟨_, rfl⟩
              rw [← hd] at KD2 hq
              clear hd he
              go_wp2
              go_region_with (refine (KD2.out _).mono ?_; rintro e w4 ⟨rfl, q4⟩)
              all_goals (go_wp2; go_ret3; exact ⟨by rw [HV.out]; rfl, q3.trans (by first | exact q4 | exact (Q.drew (Q.refl _)).trans q4)⟩)
            · have hq : ((s.extract 8 s.size).toList == (mk (cnt i)).toList) = false := by
                rw [eq_texts]; simp; intro e; apply he; rw [← E1.out, e, bl_mk]
              have HM2 : Hid (∀ m, 1 ≤ m → m < i + 1 → cnt m ≠ (bl s).drop 8) := Lib.hid (fun m a b => by
                by_cases hmi : m = i
                · subst hmi; exact he
                · exact HM.out m a (by omega))
              obtain ⟨d, hd⟩ : ∃ d, d = mk (cnt i) := ⟨_, rfl⟩
              rw [← hd] at KD2 hq
              clear hd he
              go_wp2
              go_region_with (refine (KD2.out _).mono ?_; rintro e w4 ⟨rfl, q4⟩)
              all_goals (go_wp2; go_roundw)
              all_goals first | exact ⟨i + 1, by omega, by go_num, by omega, HM2, q3.trans (by first | exact q4 | exact (Q.drew (Q.refl _)).trans q4)⟩ | (simp [intOf]; omega)
          · have HV : Hid (A = none) := Lib.hid (by rw [HA.out, no_cnt (fun m a b => HM.out m a (by omega))])
            go_wp2
            go_ret3
            exact ⟨by rw [HV.out]; rfl, q3⟩
end Go.Proofs.Ytffhpgdlnohgjaa
