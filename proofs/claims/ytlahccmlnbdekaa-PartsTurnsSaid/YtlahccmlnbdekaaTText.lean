/-
  Contracts of the program's digits, Text, countText, isMany.
-/
import Derived.Test.YtlahccmlnbdekaaTMore
import Derived.Test.YtlahccmlnbdekaaDee
namespace Go.Proofs.Ytlahccmlnbdekaa
open Go.ChangeShapes Go.WideShapes Go.ChangeAt Go.RowKit
set_option linter.unusedVariables false

theorem toQ {P : Program} {f : FuncId} {args : Array Value} {w : World} {v : Value} (h : Calls P f args w fun e w' => e = .returned v ∧ D w w') : Calls P f args w fun e w' => e = .returned v ∧ Q w w' :=
  h.mono fun _ _ ⟨a, b⟩ => ⟨a, b.q⟩
theorem quiet_d {P : Program} {f : FuncId} {args : Array Value} {w : World} {n : Nat} {v : Value}
    (h : Calls P f args (w.drewN n) fun e w' => e = .returned v ∧ D (w.drewN n) w') : Calls P f args (w.drewN n) fun e w'' => e = .returned v ∧ ∃ m, w'' = w.drewN m :=
  h.mono fun _ _ ⟨he, hm⟩ => ⟨he, D.trans ⟨n, rfl⟩ hm⟩
/-- The digits of base sixteen. -/
abbrev sym : ByteArray := ⟨#[48, 49, 50, 51, 52, 53, 54, 55, 56, 57, 97, 98, 99, 100, 101, 102]⟩
theorem sym_cut (d : Nat) (h : d < 16) : sym.extract d (d + 1) = mk [hx d] := by
  have : ∀ d, d < 16 → sym.extract d (d + 1) = mk [hx d] := by decide +kernel
  exact this d h
theorem mk_append (a b : List UInt8) : mk a ++ mk b = mk (a ++ b) := by apply bl_inj; rw [bl_append, bl_mk, bl_mk, bl_mk]
/-- What is left of a tag, and the digits that are there. -/
def LeftH (n k m : Nat) (t : ByteArray) : Prop := m < 16 ^ k ∧ k + t.size = 8 ∧ hexk 8 n = hexk k m ++ bl t
theorem LeftH.step {n k m : Nat} {t : ByteArray} (h : LeftH n (k + 1) m t) : LeftH n k (m / 16) (mk [hx (m % 16)] ++ t) := by
  obtain ⟨h1, h2, h3⟩ := h
  refine ⟨by rw [Nat.pow_succ] at h1; omega, by rw [ByteArray.size_append, mk_size]; simp; omega, ?_⟩
  rw [h3, hexk, bl_append, bl_mk, List.append_assoc]
theorem LeftH.last {n m : Nat} {t : ByteArray} (h : LeftH n 0 m t) : m = 0 ∧ t.size = 8 ∧ t = mk (hexk 8 n) := by
  obtain ⟨h1, h2, h3⟩ := h
  refine ⟨by simp at h1; exact h1, by omega, ?_⟩
  rw [h3, hexk, List.nil_append, mk_bl]

def szN : Value → Nat | .string s => s.size | _ => 0
set_option maxHeartbeats 1000000 in
theorem digits_hex (n : Nat) (w : World) (hn : n < 4294967296) :
    Calls Try.prog 78 #[.int .u32 n, .int .u32 16, .int .i64 8] w fun e w' => e = .returned (.string (mk (hexk 8 n))) ∧ D w w' := by
  go_enter Try.func78, Try.ntmps78
  go_wp2_with fail
  go_loopw [0, 7] (fun N S wr => ∃ (k m : Nat) (t : ByteArray), m < 4294967296 ∧ N = .int .u32 m ∧ S = .string t ∧ t.size ≤ 8 ∧ Hid (LeftH n k m t) ∧ D w wr) (fun _ S _ => 8 - szN S)
  case atStart => exact ⟨8, n, ⟨#[]⟩, hn, rfl, rfl, by decide, Lib.hid ⟨hn, rfl, by simp [bl]⟩, D.refl _⟩
  case round =>
    obtain ⟨k, m, t, hm, rfl, rfl, ht, HL, q⟩ := hrel
    cases k with
    | zero =>
      obtain ⟨rfl, h8, h9⟩ := HL.out.last
      have HV := Lib.hid h9
      clear h9
      go_wp2
      go_ret
      exact ⟨ret_str HV.out, q⟩
    | succ k =>
      have hlt : t.size < 8 := by have := HL.out.2.1; omega
      have HS := Lib.hid HL.out.step
      have hc := sym_cut (m % 16) (Nat.mod_lt _ (by omega))
      obtain ⟨d, hd⟩ : ∃ d, d = mk [hx (m % 16)] := ⟨_, rfl⟩
      rw [← hd] at hc HS
      have hd1 : d.size = 1 := by rw [hd]; rfl
      have hsz : (d ++ t).size = t.size + 1 := by rw [ByteArray.size_append]; omega
      have hsz2 : (d ++ t).size ≤ 8 := by omega
      clear hd
      have hb : m % 16 < 16 := Nat.mod_lt _ (by omega)
      have hb2 : (m : Int) % 16 + 1 ≤ 16 := by omega
      have hb3 : (0 : Int) ≤ (m : Int) % 16 := by omega
      by_cases h0 : m = 0
      · subst h0
        have hc0 : sym.extract 0 1 = d := hc
        clear hc hb hb2 hb3
        go_wp2
        go_region
        go_wp2
        go_roundw
        case rel => exact ⟨k, 0, _, by omega, by go_num, rfl, hsz2, HS, q.drew⟩
        case measure => simp only [szN]; rw [hsz]; omega
      · have hp : 0 < m := by omega
        go_wp2
        go_region
        go_wp2
        go_roundw
        case rel => exact ⟨k, m / 16, _, Nat.lt_of_le_of_lt (Nat.div_le_self m 16) hm, by go_num, rfl, hsz2, HS, q.drew⟩
        case measure => simp only [szN]; rw [hsz]; omega

theorem sym_dig (m : Nat) : sym.extract (m % 10) (m % 10 + 1) = mk [dig m] := by
  rw [sym_cut _ (by omega)]
  congr 2
  apply UInt8.toNat_inj.1
  rw [dig_nat, hx_nat (by omega), if_pos (by omega)]
/-- What is left of a number, and the digits that are there. -/
def Left (n m : Nat) (t : ByteArray) : Prop := digs n = dg0 m ++ bl t
theorem Left.step {n m : Nat} {t : ByteArray} (h : Left n m t) (hm : m ≠ 0) : Left n (m / 10) (mk [dig m] ++ t) := by
  unfold Left at h ⊢
  rw [h, dg0_step hm, bl_append, bl_mk, List.append_assoc]
theorem Left.size {n m : Nat} {t : ByteArray} (h : Left n m t) (hn : n ≤ 100) : t.size ≤ 13 := by
  have h1 := digs_len (n := n) (by omega)
  unfold Left at h
  rw [h, List.length_append, bl_length] at h1; omega
theorem Left.last {n : Nat} {t : ByteArray} (h : Left n 0 t) : t = mk (digs n) := by
  unfold Left at h
  rw [h, dg0_zero, List.nil_append, mk_bl]
theorem Left.pos {n : Nat} {t : ByteArray} (h : Left n 0 t) : 0 < t.size := by
  rw [h.last, mk_size]
  exact List.length_pos_iff.2 (digs_ne n)

set_option maxHeartbeats 1000000 in
theorem digits_dec (n : Nat) (w : World) (h1 : 1 ≤ n) (hn : n ≤ 100) :
    Calls Try.prog 78 #[.int .u32 n, .int .u32 10, .int .i64 1] w fun e w' => e = .returned (.string (mk (digs n))) ∧ D w w' := by
  go_enter Try.func78, Try.ntmps78
  go_wp2_with fail
  go_loopw [0, 7] (fun N S wr => ∃ (m : Nat) (t : ByteArray), m ≤ 100 ∧ N = .int .u32 m ∧ S = .string t ∧ t.size ≤ 13 ∧ Hid (Left n m t) ∧ D w wr) (fun N _ _ => (intOf N).toNat)
  case atStart => exact ⟨n, ⟨#[]⟩, hn, rfl, rfl, by decide, Lib.hid (by rw [Left, dg0_pos (by omega)]; simp [bl]), D.refl _⟩
  case round =>
    obtain ⟨m, t, hm, rfl, rfl, ht, HL, q⟩ := hrel
    by_cases h0 : m = 0
    · subst h0
      have hp := HL.out.pos
      have HV := Lib.hid HL.out.last
      have hlt : ¬ ((t.size : Int) < 1) := by omega
      go_wp2
      go_ret
      exact ⟨ret_str HV.out, q⟩
    · have HS := Lib.hid (HL.out.step h0)
      have hc := sym_dig m
      obtain ⟨d, hd⟩ : ∃ d, d = mk [dig m] := ⟨_, rfl⟩
      rw [← hd] at hc HS
      have hd1 : d.size = 1 := by rw [hd]; rfl
      have HZ := Lib.hid (HS.out.size hn)
      clear hd
      have hp : 0 < m := by omega
      have hb : m % 10 < 10 := Nat.mod_lt _ (by omega)
      have hb2 : (m : Int) % 10 + 1 ≤ 16 := by omega
      have hb3 : (0 : Int) ≤ (m : Int) % 10 := by omega
      clear h0
      go_wp2
      go_region
      go_wp2
      go_roundw
      case rel => exact ⟨m / 10, _, by omega, by go_num, rfl, HZ.out, HS, q.drew⟩
      case measure => simp [intOf]; omega

set_option maxHeartbeats 1000000 in
theorem text_d (n : Nat) (w : World) (hn : n < 4294967296) :
    Calls Try.prog 69 #[.int .u32 n] w fun e w' => e = .returned (.string (mk (hexk 8 n))) ∧ D w w' := by
  have C := Lib.hid fun w => digits_hex n w hn
  go_enter Try.func69, Try.ntmps69
  go_wp2_with fail
  refine (C.out _).mono ?_
  rintro e w1 ⟨rfl, q⟩
  go_wp2
  go_ret
  exact ⟨rfl, q⟩
set_option maxHeartbeats 1000000 in
theorem countText_d (n : Nat) (w : World) (h1 : 1 ≤ n) (hn : n ≤ 100) :
    Calls Try.prog 70 #[.int .i64 n] w fun e w' => e = .returned (.string (mk (cnt n))) ∧ D w w' := by
  have C := Lib.hid fun w => digits_dec n w h1 hn
  have hl := digs_len (n := n) (by omega)
  have HC : Hid ((⟨#[45]⟩ : ByteArray) ++ mk (digs n) = mk (cnt n)) := Lib.hid (by rw [cnt, show (⟨#[45]⟩ : ByteArray) = mk [45] by rfl, mk_append]; rfl)
  have hz : (mk (digs n)).size ≤ 13 := by rw [mk_size]; omega
  obtain ⟨d, hd⟩ : ∃ d, d = mk (digs n) := ⟨_, rfl⟩
  rw [← hd] at C HC hz
  clear hd hl
  go_enter Try.func70, Try.ntmps70
  go_wp2_with fail
  refine (C.out _).mono ?_
  rintro e w1 ⟨rfl, q⟩
  go_wp2
  go_ret
  exact ⟨ret_str HC.out, q⟩
theorem text_any (n : Nat) (w : World) (hn : n < 4294967296) :
    Calls Try.prog 69 #[.int .u32 n] w fun e w' => e = .returned (.string (mk (hexk 8 n))) ∧ Q w w' := toQ (text_d n w hn)
theorem countText_any (n : Nat) (w : World) (h1 : 1 ≤ n) (hn : n ≤ 100) :
    Calls Try.prog 70 #[.int .i64 n] w fun e w' => e = .returned (.string (mk (cnt n))) ∧ Q w w' := toQ (countText_d n w h1 hn)
set_option maxHeartbeats 1000000 in
theorem isMany_any (n : Int) (w : World) :
    Calls Try.prog 68 #[.int .i64 n] w fun e w' => e = .returned (.bool (decide (1 ≤ n ∧ n ≤ 100))) ∧ w = w' := by
  by_cases h1 : 1 ≤ n
  · by_cases h2 : n ≤ 100
    · have hv : decide (1 ≤ n ∧ n ≤ 100) = true := by simp [h1, h2]
      rw [hv]
      go_enter Try.func68, Try.ntmps68
      go_wp2
      go_ret
      exact ⟨ret_bool (by simp), rfl⟩
    · have hv : decide (1 ≤ n ∧ n ≤ 100) = false := by simp [h2]
      rw [hv]
      go_enter Try.func68, Try.ntmps68
      go_wp2
      go_ret
      exact ⟨ret_bool (by simp), rfl⟩
  · have hv : decide (1 ≤ n ∧ n ≤ 100) = false := by simp [h1]
    rw [hv]
    go_enter Try.func68, Try.ntmps68
    go_wp2
    go_ret
    exact ⟨ret_bool (by simp), rfl⟩
end Go.Proofs.Ytlahccmlnbdekaa
