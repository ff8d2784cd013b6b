/-
  Contracts of the document's Text, Parse, Count.
-/
import Derived.Test.YtlahccmlnbdekaaTRead
namespace Go.Proofs.Ytlahccmlnbdekaa
open Go.ChangeShapes Go.WideShapes Go.ChangeAt Go.RowKit
set_option linter.unusedVariables false

/-- string of a slice of one octet. -/
theorem conv1 (W : World) (a : Addr) (n : Int) (cap : Nat) (h0 : 0 ≤ n) (h1 : n ≤ 255) (h : W.cell? a = some (.int .u8 n)) :
    (convert 100 9 (.slice (some a) 1 cap)).run Try.prog W = .ok (.string (mk [n.toNat.toUInt8])) W := by
  have := run_convert_bytes_back (P := Try.prog) W 100 9 5 a cap [n.toNat.toUInt8] Try.underlying100 Try.underlying5 Try.underlying9 (by
    intro j hj
    obtain rfl : j = 0 := by simp at hj; omega
    have e : ((n.toNat.toUInt8).toNat : Int) = n := by rw [Lib.toUInt8_toNat (by omega)]; omega
    simp only [Addr.add, if_true, List.getElem_cons_zero]
    rw [e]; exact h)
  exact this
theorem hx_dec (m : Nat) (h : m % 16 < 10) : mk [(48 + (m : Int) % 16).toNat.toUInt8] = mk [hx (m % 16)] := by
  have : (48 + (m : Int) % 16).toNat = 48 + m % 16 := by omega
  rw [this, hx, if_pos h]
theorem hx_alf (m : Nat) (h : ¬ m % 16 < 10) : mk [(87 + (m : Int) % 16).toNat.toUInt8] = mk [hx (m % 16)] := by
  have : (87 + (m : Int) % 16).toNat = 87 + m % 16 := by omega
  rw [this, hx, if_neg h]
theorem dig_int (m : Nat) : mk [(48 + (m : Int) % 10).toNat.toUInt8] = mk [dig m] := by
  have : (48 + (m : Int) % 10).toNat = 48 + m % 10 := by omega
  rw [this, dig]

set_option maxHeartbeats 1000000 in
theorem rtext_any (n : Nat) (w : World) (hn : n < 4294967296) :
    Calls Try.prog 71 #[.int .u32 n] w fun e w' => e = .returned (.string (mk (hexk 8 n))) ∧ Q w w' := by
  go_enter Try.func71, Try.ntmps71
  go_wp2_with fail
  go_loopw [0, 3, 4] (fun N S I wr => ∃ (k i m : Nat) (t : ByteArray), k + i = 8 ∧ m < 4294967296 ∧ N = .int .u32 m ∧ S = .string t ∧ I = .int .i64 i ∧ t.size ≤ 8 ∧ Hid (LeftH n k m t) ∧ Q w wr) (fun _ _ I _ => 8 - (intOf I).toNat)
  case atStart => exact ⟨8, 0, n, ⟨#[]⟩, rfl, hn, rfl, rfl, rfl, by decide, Lib.hid ⟨hn, rfl, by simp [bl]⟩, Q.refl _⟩
  case round =>
    obtain ⟨k, i, m, t, hk, hm, rfl, rfl, rfl, ht, HL, q⟩ := hrel
    cases k with
    | zero =>
      obtain ⟨-, h8, h9⟩ := HL.out.last
      have HV := Lib.hid h9
      have hlt : ¬ ((i : Int) < 8) := by omega
      clear h9
      go_wp2
      go_ret
      exact ⟨ret_str HV.out, q⟩
    | succ k =>
      have hlt : ((i : Int) < 8) := by omega
      have HS := Lib.hid HL.out.step
      have hs7 : t.size < 8 := by have := HL.out.2.1; omega
      by_cases h10 : m % 16 < 10
      · have h2 := fun W => conv1 W ⟨wr.heap.size, 0, none⟩ (48 + (m : Int) % 16) 1 (by omega) (by omega)
        rw [hx_dec m h10] at h2
        obtain ⟨d, hd⟩ : ∃ d, d = mk [hx (m % 16)] := ⟨_, rfl⟩
        rw [← hd] at h2 HS
        have hd1 : d.size = 1 := by rw [hd]; rfl
        have hsz2 : (d ++ t).size ≤ 8 := by rw [ByteArray.size_append]; omega
        have hc : ((m : Int) % 16 < 10) := by omega
        clear hd h10
        go_wp2
        go_roundw
        case rel => exact ⟨k, i + 1, m / 16, _, by omega, Nat.lt_of_le_of_lt (Nat.div_le_self m 16) hm, by go_num, rfl, by go_num, hsz2, HS, q.alloc _⟩
        case measure => simp [intOf]; omega
      · have h2 := fun W => conv1 W ⟨wr.heap.size, 0, none⟩ (87 + (m : Int) % 16) 1 (by omega) (by omega)
        rw [hx_alf m h10] at h2
        obtain ⟨d, hd⟩ : ∃ d, d = mk [hx (m % 16)] := ⟨_, rfl⟩
        rw [← hd] at h2 HS
        have hd1 : d.size = 1 := by rw [hd]; rfl
        have hsz2 : (d ++ t).size ≤ 8 := by rw [ByteArray.size_append]; omega
        have hc : ¬ ((m : Int) % 16 < 10) := by omega
        clear hd h10
        go_wp2
        go_roundw
        case rel => exact ⟨k, i + 1, m / 16, _, by omega, Nat.lt_of_le_of_lt (Nat.div_le_self m 16) hm, by go_num, rfl, by go_num, hsz2, HS, q.alloc _⟩
        case measure => simp [intOf]; omega

set_option maxHeartbeats 1000000 in
theorem rcount_any (n : Nat) (w : World) (h1 : 1 ≤ n) (hn : n ≤ 100) :
    Calls Try.prog 72 #[.int .i64 n] w fun e w' => e = .returned (.string (mk (cnt n))) ∧ Q w w' := by
  have HC : Hid (∀ t, t = mk (digs n) → (⟨#[45]⟩ : ByteArray) ++ t = mk (cnt n)) := Lib.hid (by rintro t rfl; rw [cnt, show (⟨#[45]⟩ : ByteArray) = mk [45] by rfl, mk_append]; rfl)
  go_enter Try.func72, Try.ntmps72
  go_wp2_with fail
  go_loopw [0, 3] (fun N S wr => ∃ (m : Nat) (t : ByteArray), m ≤ 100 ∧ N = .int .i64 m ∧ S = .string t ∧ t.size ≤ 13 ∧ Hid (Left n m t) ∧ Q w wr) (fun N _ _ => (intOf N).toNat)
  case atStart => exact ⟨n, ⟨#[]⟩, hn, rfl, rfl, by decide, Lib.hid (by rw [Left, dg0_pos (by omega)]; simp [bl]), Q.refl _⟩
  case round =>
    obtain ⟨m, t, hm, rfl, rfl, ht, HL, q⟩ := hrel
    by_cases h0 : m = 0
    · subst h0
      have HV := Lib.hid (HC.out _ HL.out.last)
      go_wp2
      go_ret
      exact ⟨ret_str HV.out, q⟩
    · have HS := Lib.hid (HL.out.step h0)
      have h2 := fun W => conv1 W ⟨wr.heap.size, 0, none⟩ (48 + (m : Int) % 10) 1 (by omega) (by omega)
      rw [dig_int] at h2
      obtain ⟨d, hd⟩ : ∃ d, d = mk [dig m] := ⟨_, rfl⟩
      rw [← hd] at h2 HS
      have hd1 : d.size = 1 := by rw [hd]; rfl
      have HZ := Lib.hid (HS.out.size hn)
      clear hd
      have hp : 0 < m := by omega
      clear h0
      go_wp2
      go_roundw
      case rel => exact ⟨m / 10, _, by omega, by go_num, rfl, HZ.out, HS, q.alloc _⟩
      case measure => simp [intOf]; omega

end Go.Proofs.Ytlahccmlnbdekaa
