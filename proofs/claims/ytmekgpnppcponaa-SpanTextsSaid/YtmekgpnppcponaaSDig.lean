/-
  Contracts of digits and number, and the document's Digits and number.
-/
import Derived.Test.YtmekgpnppcponaaSNum
namespace Go.Proofs.Ytmekgpnppcponaa
open Go.ChangeShapes Go.WideShapes Go.ChangeAt Go.RowKit
set_option linter.unusedVariables false

/-- string of a slice of one octet. -/
theorem conv1 (W : World) (a : Addr) (n : Int) (cap : Nat) (h0 : 0 ≤ n) (h1 : n ≤ 255) (h : W.cell? a = some (.int .u8 n)) :
    (convert 56 9 (.slice (some a) 1 cap)).run Try.prog W = .ok (.string (mk [n.toNat.toUInt8])) W := by
  have := run_convert_bytes_back (P := Try.prog) W 56 9 5 a cap [n.toNat.toUInt8] Try.underlying56 Try.underlying5 Try.underlying9 (by
    intro j hj
    obtain rfl : j = 0 := by simp at hj; omega
    have e : ((n.toNat.toUInt8).toNat : Int) = n := by rw [Lib.toUInt8_toNat (by omega)]; omega
    simp only [Addr.add, if_true, List.getElem_cons_zero]
    rw [e]; exact h)
  exact this
theorem mk_append (a b : List UInt8) : mk a ++ mk b = mk (a ++ b) := by apply bl_inj; rw [bl_append, bl_mk, bl_mk, bl_mk]
/-- What is left of a number, and the digits that are there: together the number's. -/
def Left (n m : Nat) (t : ByteArray) : Prop := digs n = dg0 m ++ bl t
theorem Left.step {n m : Nat} {t : ByteArray} (h : Left n m t) (hm : m ≠ 0) : Left n (m / 10) (mk [dig m] ++ t) := by
  unfold Left at h ⊢
  rw [h, dg0_step hm, bl_append, bl_mk, List.append_assoc]
theorem Left.size {n m : Nat} {t : ByteArray} (h : Left n m t) (hn : n ≤ 1099511627775) : t.size ≤ 13 := by
  have h1 := digs_len hn
  unfold Left at h
  rw [h, List.length_append, bl_length] at h1; omega
theorem Left.last {n : Nat} {t : ByteArray} (h : Left n 0 t) : t = mk (digs n) := by
  unfold Left at h
  rw [h, dg0_zero, List.nil_append, mk_bl]
theorem dig_int (m : Nat) : mk [(48 + (m : Int) % 10).toNat.toUInt8] = mk [dig m] := by
  have : (48 + (m : Int) % 10).toNat = 48 + m % 10 := by omega
  rw [this, dig]

set_option maxHeartbeats 1000000 in
theorem digits_any (n : Nat) (w : World) (hn : n ≤ 1099511627775) :
    Calls Try.prog 21 #[.int .i64 n] w fun e w' => e = .returned (.string (mk (digs n))) ∧ Q w w' := by
  have hcv := fun (m : Nat) (W : World) (b : Nat) (h : W.cell? ⟨b, 0, none⟩ = some (.int .u8 (48 + (m : Int) % 10))) => conv1 W ⟨b, 0, none⟩ (48 + (m : Int) % 10) 1 (by omega) (by omega) h
  have HC := Lib.hid hcv
  clear hcv
  have h1 := HC.out n
  rw [dig_int] at h1
  have H0 : Hid (Left n (n / 10) (mk [dig n])) := Lib.hid (by rw [Left, bl_mk, digs])
  obtain ⟨c, hc⟩ : ∃ c, c = mk [dig n] := ⟨_, rfl⟩
  rw [← hc] at h1 H0
  clear hc
  have h2 := fun W => h1 W w.heap.size
  clear h1
  go_enter Try.func21, Try.ntmps21
  go_wp2
  go_loopw [0, 3] (fun N S wr => ∃ (m : Nat) (t : ByteArray), m ≤ 1099511627775 ∧ N = .int .i64 m ∧ S = .string t ∧ t.size ≤ 13 ∧ Hid (Left n m t) ∧ Q w wr) (fun N _ _ => (intOf N).toNat)
  case atStart => exact ⟨n / 10, c, by omega, by go_num, rfl, H0.out.size hn, H0, (Q.refl _).alloc _⟩
  case round =>
    obtain ⟨m, t, hm, rfl, rfl, ht, HL, q⟩ := hrel
    clear h2
    by_cases h0 : m = 0
    · subst h0
      go_wp2
      go_ret
      exact ⟨ret_str HL.out.last, q⟩
    · have h2 := fun W => HC.out m W wr.heap.size
      have HS := Lib.hid (HL.out.step h0)
      rw [dig_int] at h2
      obtain ⟨d, hd⟩ : ∃ d, d = mk [dig m] := ⟨_, rfl⟩
      rw [← hd] at h2 HS
      have hd1 : d.size = 1 := by rw [hd]; rfl
      clear hd
      have hp : 0 < m := by omega
      clear h0
      go_wp2
      go_roundw
      case rel => exact ⟨m / 10, _, by omega, by go_num, rfl, HS.out.size hn, HS, q.alloc _⟩
      case measure => simp [intOf]; omega

theorem emp_no {t : ByteArray} (h : 0 < t.size) : t.toList.isEmpty = false := by
  cases e : t.toList.isEmpty with
  | false => rfl
  | true => have := (nil_text t).1 (List.isEmpty_iff.1 e); omega
theorem emp_yes {t : ByteArray} (h : t.size = 0) : t.toList.isEmpty = true := List.isEmpty_iff.2 ((nil_text t).2 h)
/-- Behind each round of the document's Digits. -/
def LeftR (n m : Nat) (t : ByteArray) : Prop := (t.size = 0 ∧ m = n) ∨ (0 < t.size ∧ Left n m t)
def szOf : Value → Nat | .string s => (if s.size = 0 then 1 else 0) | _ => 0
theorem szOf_nil : szOf (.string ⟨#[]⟩) = 1 := rfl
theorem szOf_pos {t : ByteArray} (h : 0 < t.size) : szOf (.string t) = 0 := by
  rw [szOf, if_neg (by omega)]
theorem Left.first (n : Nat) : Left n (n / 10) (mk [dig n] ++ ⟨#[]⟩) := by
  rw [Left, bl_append, bl_mk, digs]; rfl

set_option maxHeartbeats 1000000 in
theorem rdigits_any (n : Nat) (w : World) (hn : n ≤ 1099511627775) :
    Calls Try.prog 28 #[.int .i64 n] w fun e w' => e = .returned (.string (mk (digs n))) ∧ Q w w' := by
  have hcv := fun (m : Nat) (W : World) (b : Nat) (h : W.cell? ⟨b, 0, none⟩ = some (.int .u8 (48 + (m : Int) % 10))) => conv1 W ⟨b, 0, none⟩ (48 + (m : Int) % 10) 1 (by omega) (by omega) h
  have HC := Lib.hid hcv
  clear hcv
  go_enter Try.func28, Try.ntmps28
  go_wp2_with fail
  go_loopw [0, 3] (fun N S wr => ∃ (m : Nat) (t : ByteArray), m ≤ 1099511627775 ∧ N = .int .i64 m ∧ S = .string t ∧ t.size ≤ 13 ∧ Hid (LeftR n m t) ∧ Q w wr) (fun N S _ => (intOf N).toNat + szOf S)
  case atStart => exact ⟨n, ⟨#[]⟩, hn, rfl, rfl, by decide, Lib.hid (.inl ⟨rfl, rfl⟩), Q.refl _⟩
  case round =>
    obtain ⟨m, t, hm, rfl, rfl, ht, HL, q⟩ := hrel
    have h2 := fun W => HC.out m W wr.heap.size
    rw [dig_int] at h2
    obtain ⟨d, hd⟩ : ∃ d, d = mk [dig m] := ⟨_, rfl⟩
    rw [← hd] at h2
    have hd1 : d.size = 1 := by rw [hd]; rfl
    have HD := Lib.hid hd
    clear hd
    rcases HL.out with ⟨hz, rfl⟩ | ⟨hz, hl⟩
    · obtain rfl := text_nil hz
      clear hz
      have HS := Lib.hid (Left.first m)
      rw [← HD.out] at HS
      go_wp2
      go_roundw
      case rel => exact ⟨m / 10, _, by omega, by go_num, rfl, by first | exact HS.out.size hn | (rw [ByteArray.size_append]; simp; omega), Lib.hid (.inr ⟨by rw [ByteArray.size_append]; omega, HS.out⟩), q.alloc _⟩
      case measure => rw [szOf_pos (t := d ++ ⟨#[]⟩) (by rw [ByteArray.size_append]; omega), szOf_nil]; simp [intOf]; omega
    · have e1 := emp_no hz
      by_cases h0 : m = 0
      · subst h0
        have HV := Lib.hid hl.last
        clear hl
        go_wp2
        go_ret
        exact ⟨ret_str HV.out, q⟩
      · have HS := Lib.hid (hl.step h0)
        rw [← HD.out] at HS
        have hp : 0 < m := by omega
        clear h0 hl
        go_wp2
        go_roundw
        case rel => exact ⟨m / 10, _, by omega, by go_num, rfl, HS.out.size hn, Lib.hid (.inr ⟨by rw [ByteArray.size_append]; omega, HS.out⟩), q.alloc _⟩
        case measure => rw [szOf_pos (t := d ++ t) (by rw [ByteArray.size_append]; omega), szOf_pos hz]; simp [intOf]; omega

/-- What number tells. -/
def numV : Option Nat → Value
  | some n => .tuple #[.int .i64 n, .bool true]
  | none => .tuple #[.int .i64 0, .bool false]
theorem head_at (s : ByteArray) (h : 0 < s.size) : (bl s).head? = some s[0] := by
  obtain ⟨⟨l⟩⟩ := s
  cases l with
  | nil => simp [ByteArray.size] at h
  | cons a l => rfl
theorem drop_at (s : ByteArray) {k : Nat} (h : k < s.size) : (bl s).drop k = s[k] :: (bl s).drop (k + 1) := by
  rw [List.drop_eq_getElem_cons (by rw [bl_length]; exact h)]; rfl
theorem drop_end (s : ByteArray) : (bl s).drop s.size = [] := by rw [List.drop_eq_nil_iff, bl_length]; exact Nat.le_refl _

set_option maxHeartbeats 1000000 in
theorem number_any (s : ByteArray) (w : World) (hs : s.size ≤ 5000) :
    Calls Try.prog 23 #[.string s] w fun e w' => e = .returned (numV (num (bl s))) ∧ w = w' := by
  by_cases hz : s.size = 0
  · have e1 := emp_yes hz
    have HV : Hid (num (bl s) = none) := Lib.hid (by rw [num, if_pos (List.length_eq_zero_iff.1 (by rw [bl_length]; exact hz))])
    go_enter Try.func23, Try.ntmps23
    go_wp2
    go_ret2
    exact ⟨by rw [HV.out]; rfl, rfl⟩
  · have e1 := emp_no (t := s) (by omega)
    have hp : 0 < s.size := by omega
    have HB : Hid (bl s ≠ []) := Lib.hid (by intro e; have := bl_length s; rw [e] at this; simp at this; omega)
    have HH := Lib.hid (head_at s hp)
    clear hz
    by_cases h48 : s[0].toNat = 48
    · have n0 : ((s[0].toNat : Int) == 48) = true := by simp [h48]
      have h48' : s[0] = 48 := UInt8.toNat_inj.1 h48
      rw [h48'] at HH
      clear h48 h48'
      by_cases h1 : s = ⟨#[48]⟩
      · have HA : Hid (num (bl s) = acc 0 (bl s)) := Lib.hid (by rw [num, if_neg HB.out, if_neg (by rw [h1]; simp [bl])])
        have z : (s.toList == [48]) = true := by rw [h1, toList_bl]; rfl
        clear h1
        go_enter Try.func23, Try.ntmps23
        go_wp2_with fail
        go_loop [4, 19] (fun M i => ∃ j m : Nat, j ≤ s.size ∧ m ≤ 1099511627775 ∧ i = .int .i64 j ∧ M = .int .i64 m ∧ Hid (acc 0 (bl s) = acc m ((bl s).drop j))) (fun _ i => s.size - (intOf i).toNat)
        case atStart => exact ⟨0, 0, Nat.zero_le _, by omega, rfl, rfl, Lib.hid (by rw [List.drop_zero])⟩
        case round =>
          obtain ⟨j, m, hj, hm, rfl, rfl, HM⟩ := hrel
          by_cases hlt : j < s.size
          · rw [drop_at s hlt, acc] at HM
            have hc := UInt8.toNat_lt s[j]
            by_cases hd : 48 ≤ s[j].toNat ∧ s[j].toNat ≤ 57
            · rw [if_pos hd] at HM
              obtain ⟨hd1, hd2⟩ := hd
              obtain ⟨k, hk⟩ : ∃ k : Nat, s[j].toNat = 48 + k := ⟨s[j].toNat - 48, by omega⟩
              have hi : (10 * (m : Int) + ((s[j].toNat : Int) - 48)) = ((10 * m + (s[j].toNat - 48) : Nat) : Int) := by omega
              have HI := Lib.hid hi
              have HK := Lib.hid hk
              clear hk hi
              by_cases hb : 10 * m + (s[j].toNat - 48) ≤ 1099511627775
              · rw [if_pos hb] at HM
                have hin : inP (10 * (m : Int) + ((s[j].toNat : Int) - 48)) = true := inP_iff.2 (by omega)
                go_wp2_with fail
                refine (isPlace_any _ _).mono ?_
                rintro e w1 ⟨rfl, rfl⟩
                rw [hin]
                go_wp2
                go_round
                case rel => exact ⟨j + 1, 10 * m + (s[j].toNat - 48), by omega, hb, by go_num, by rw [← HI.out], HM⟩
                case measure => simp [intOf]; omega
              · rw [if_neg hb] at HM
                have hin : inP (10 * (m : Int) + ((s[j].toNat : Int) - 48)) = false := by
                  cases h : inP (10 * (m : Int) + ((s[j].toNat : Int) - 48)) with
                  | false => rfl
                  | true => have := inP_iff.1 h; omega
                go_wp2_with fail
                refine (isPlace_any _ _).mono ?_
                rintro e w1 ⟨rfl, rfl⟩
                rw [hin]
                go_wp2
                go_ret2
                exact ⟨by rw [HA.out, HM.out]; rfl, rfl⟩
            · rw [if_neg hd] at HM
              by_cases h1 : s[j].toNat < 48
              · clear hd
                go_wp2
                go_ret2
                exact ⟨by rw [HA.out, HM.out]; rfl, rfl⟩
              · have h2 : 57 < s[j].toNat := by omega
                clear hd
                go_wp2
                go_ret2
                exact ⟨by rw [HA.out, HM.out]; rfl, rfl⟩
          · obtain rfl : j = s.size := by omega
            rw [drop_end, acc] at HM
            go_wp2
            go_ret2
            exact ⟨by rw [HA.out, HM.out]; rfl, rfl⟩
      · have HV : Hid (num (bl s) = none) := Lib.hid (by rw [num, if_neg HB.out, if_pos ⟨HH.out, fun e => h1 (bl_inj e)⟩])
        have z : (s.toList == [48]) = false := by
          have : ¬ s.toList = [48] := fun e => h1 (bl_inj (by rw [← toList_bl, e]; rfl))
          simpa using this
        clear h1
        go_enter Try.func23, Try.ntmps23
        go_wp2
        go_ret2
        exact ⟨by rw [HV.out]; rfl, rfl⟩
    · have n0 : ((s[0].toNat : Int) == 48) = false := by
        have : ¬ ((s[0].toNat : Int) = 48) := by omega
        simpa using this
      have HA : Hid (num (bl s) = acc 0 (bl s)) := Lib.hid (by
        rw [num, if_neg HB.out, if_neg]
        rintro ⟨e, -⟩
        rw [HH.out] at e
        apply h48
        have e2 : s[0] = 48 := by simpa using e
        rw [e2]; rfl)
      clear h48
      go_enter Try.func23, Try.ntmps23
      go_wp2_with fail
      go_loop [4, 19] (fun M i => ∃ j m : Nat, j ≤ s.size ∧ m ≤ 1099511627775 ∧ i = .int .i64 j ∧ M = .int .i64 m ∧ Hid (acc 0 (bl s) = acc m ((bl s).drop j))) (fun _ i => s.size - (intOf i).toNat)
      case atStart => exact ⟨0, 0, Nat.zero_le _, by omega, rfl, rfl, Lib.hid (by rw [List.drop_zero])⟩
      case round =>
        obtain ⟨j, m, hj, hm, rfl, rfl, HM⟩ := hrel
        by_cases hlt : j < s.size
        · rw [drop_at s hlt, acc] at HM
          have hc := UInt8.toNat_lt s[j]
          by_cases hd : 48 ≤ s[j].toNat ∧ s[j].toNat ≤ 57
          · rw [if_pos hd] at HM
            obtain ⟨hd1, hd2⟩ := hd
            obtain ⟨k, hk⟩ : ∃ k : Nat, s[j].toNat = 48 + k := ⟨s[j].toNat - 48, by omega⟩
            have hi : (10 * (m : Int) + ((s[j].toNat : Int) - 48)) = ((10 * m + (s[j].toNat - 48) : Nat) : Int) := by omega
            have HI := Lib.hid hi
            have HK := Lib.hid hk
            clear hk hi
            by_cases hb : 10 * m + (s[j].toNat - 48) ≤ 1099511627775
            · rw [if_pos hb] at HM
              have hin : inP (10 * (m : Int) + ((s[j].toNat : Int) - 48)) = true := inP_iff.2 (by omega)
              go_wp2_with fail
              refine (isPlace_any _ _).mono ?_
              rintro e w1 ⟨rfl, rfl⟩
              rw [hin]
              go_wp2
              go_round
              case rel => exact ⟨j + 1, 10 * m + (s[j].toNat - 48), by omega, hb, by go_num, by rw [← HI.out], HM⟩
              case measure => simp [intOf]; omega
            · rw [if_neg hb] at HM
              have hin : inP (10 * (m : Int) + ((s[j].toNat : Int) - 48)) = false := by
                cases h : inP (10 * (m : Int) + ((s[j].toNat : Int) - 48)) with
                | false => rfl
                | true => have := inP_iff.1 h; omega
              go_wp2_with fail
              refine (isPlace_any _ _).mono ?_
              rintro e w1 ⟨rfl, rfl⟩
              rw [hin]
              go_wp2
              go_ret2
              exact ⟨by rw [HA.out, HM.out]; rfl, rfl⟩
          · rw [if_neg hd] at HM
            by_cases h1 : s[j].toNat < 48
            · clear hd
              go_wp2
              go_ret2
              exact ⟨by rw [HA.out, HM.out]; rfl, rfl⟩
            · have h2 : 57 < s[j].toNat := by omega
              clear hd
              go_wp2
              go_ret2
              exact ⟨by rw [HA.out, HM.out]; rfl, rfl⟩
        · obtain rfl : j = s.size := by omega
          rw [drop_end, acc] at HM
          go_wp2
          go_ret2
          exact ⟨by rw [HA.out, HM.out]; rfl, rfl⟩
end Go.Proofs.Ytmekgpnppcponaa
