/-
  Contracts of name's Bucket, Key, Prefix, Delim and of what they call.
-/
import Derived.Test.YtipipjpdlblifaaNBase
namespace Go.Proofs.Ytipipjpdlblifaa
set_option linter.unusedVariables false
open Go.ChangeShapes Go.WideShapes Go.ChangeAt Go.RowKit

def ko (n : Int) : Bool := decide (32 ≤ n) && decide (n ≤ 126)
def bo (n : Int) : Bool := (decide (97 ≤ n) && decide (n ≤ 122)) || (decide (48 ≤ n) && decide (n ≤ 57)) || n == 45

theorem ko_any (n : Int) (w : World) (h0 : 0 ≤ n) (h1 : n ≤ 255) :
    Calls Try.prog 42 #[.int .u8 n] w fun e w' => e = .returned (.bool (ko n)) ∧ w = w' := by
  have HF := Lib.hid (show ko n = (decide (32 ≤ n) && decide (n ≤ 126)) from rfl)
  by_cases a : 32 ≤ n <;> by_cases b : n ≤ 126
  all_goals
    go_enter Try.func42, Try.ntmps42
    go_wp2
    go_ret
    exact ⟨ret_bool (by rw [HF.out]; simp [*]), rfl⟩

/-- All octets of a string do. -/
def allO (p : Int → Bool) (s : ByteArray) : Bool := s.data.toList.all fun c => p c.toNat
def hasO (lo hi : Nat) (p : Int → Bool) (s : ByteArray) : Bool := decide (lo ≤ s.size) && decide (s.size ≤ hi) && allO p s

theorem take_snoc (s : ByteArray) (k : Nat) (h : k < s.size) : s.data.toList.take (k + 1) = s.data.toList.take k ++ [s[k]] := by
  rw [List.take_succ_eq_append_getElem (by simpa using h)]; rfl

def okTo (p : Int → Bool) (s : ByteArray) (k : Nat) : Prop := (s.data.toList.take k).all (fun c => p c.toNat) = true
theorem okTo_zero (p : Int → Bool) (s : ByteArray) : okTo p s 0 := by simp [okTo]
theorem okTo_succ {p : Int → Bool} {s : ByteArray} {k : Nat} (h : k < s.size) (a : okTo p s k) (b : p (s[k].toNat : Int) = true) : okTo p s (k + 1) := by
  unfold okTo at *; rw [take_snoc s k h, List.all_append, a]; simp [b]
theorem okTo_end {p : Int → Bool} {s : ByteArray} (a : okTo p s s.size) : allO p s = true := by
  unfold okTo at a; rw [List.take_of_length_le (by simp)] at a; exact a
theorem okTo_not {p : Int → Bool} {s : ByteArray} {k : Nat} (h : k < s.size) (b : p (s[k].toNat : Int) = false) : allO p s = false := by
  unfold allO; rw [List.all_eq_false]; exact ⟨s[k], by rw [show s[k] = s.data.toList[k]'(by simpa using h) from rfl]; exact List.getElem_mem _, by simp [b]⟩

set_option maxHeartbeats 400000 in
theorem hasK (lo hi : Nat) (s : ByteArray) (w : World) (h1 : lo ≤ 1000) (h2 : hi ≤ 1000) (hs : s.size ≤ 1000) :
    Calls Try.prog 43 #[.agg #[.int .i64 lo, .int .i64 hi, .func (.func 42) #[] #[]], .string s] w fun e w' => e = .returned (.bool (hasO lo hi ko s)) ∧ Q w w' := by
  have HF := Lib.hid (show hasO lo hi ko s = (decide (lo ≤ s.size) && decide (s.size ≤ hi) && allO ko s) from rfl)
  have hq : ∀ o, Q w (w.alloc o) := fun o => (Q.refl w).alloc o
  have HQ := Lib.hid hq
  clear hq
  by_cases a : lo ≤ s.size
  · by_cases b : s.size ≤ hi
    · go_enter Try.func43, Try.ntmps43
      go_wp2_with fail
      go_loopw [20] (fun i w1 => ∃ k : Nat, k ≤ s.size ∧ i = .int .i64 k ∧ okTo ko s k ∧ w1.cell? ⟨w.heap.size, 2, none⟩ = some (.func (.func 42) #[] #[]) ∧ Q w w1) (fun i _ => s.size - (intOf i).toNat)
      case atStart => exact ⟨0, Nat.zero_le _, rfl, okTo_zero _ _, by simp [go_sem], HQ.out _⟩
      case round =>
        obtain ⟨k, hk, rfl, ho, hc, hq⟩ := hrel
        by_cases hlt : k < s.size
        · have hb : s[k].toNat < 256 := s[k].toNat_lt
          have h0 : (0 : Int) ≤ (s[k].toNat : Int) := by omega
          have h255 : (s[k].toNat : Int) ≤ 255 := by omega
          have hi1 : (0 : Int) ≤ (k : Int) := by omega
          by_cases hp : ko (s[k].toNat : Int) = true
          · go_wp2_with fail
            go_quiet ((exact quiet_left (ko_any _ _ h0 h255)))
            go_wp2
            go_roundw
            case rel => exact ⟨k + 1, by omega, by go_num, okTo_succ hlt ho hp, hc, hq.drewN _⟩
            case measure => simp [intOf]; omega
          · have hp' : ko (s[k].toNat : Int) = false := by simpa using hp
            clear hp
            go_wp2_with fail
            go_quiet ((exact quiet_left (ko_any _ _ h0 h255)))
            go_wp2
            go_ret
            exact ⟨ret_bool (by rw [HF.out, okTo_not hlt hp']; simp), hq.drewN _⟩
        · obtain rfl : k = s.size := by omega
          go_wp2
          go_ret
          exact ⟨ret_bool (by rw [HF.out, okTo_end ho]; simp [a, b]), hq⟩
    · go_enter Try.func43, Try.ntmps43
      go_wp2
      go_ret
      exact ⟨ret_bool (by rw [HF.out]; simp [b]), HQ.out _⟩
  · go_enter Try.func43, Try.ntmps43
    go_wp2
    go_ret
    exact ⟨ret_bool (by rw [HF.out]; simp [a]), HQ.out _⟩

theorem key_any (s : ByteArray) (w : World) (hs : s.size ≤ 1000) :
    Calls Try.prog 44 #[.string s] w fun e w' => e = .returned (.bool (hasO 1 60 ko s)) ∧ Q w w' := by
  go_enter Try.func44, Try.ntmps44
  go_wp2_with fail
  refine (hasK 1 60 _ _ (by omega) (by omega) hs).mono ?_
  rintro e w1 ⟨rfl, hq⟩
  go_wp2
  go_ret
  exact ⟨rfl, hq⟩

theorem pref_any (s : ByteArray) (w : World) (hs : s.size ≤ 1000) :
    Calls Try.prog 41 #[.string s] w fun e w' => e = .returned (.bool (hasO 0 60 ko s)) ∧ Q w w' := by
  go_enter Try.func41, Try.ntmps41
  go_wp2_with fail
  refine (hasK 0 60 _ _ (by omega) (by omega) hs).mono ?_
  rintro e w1 ⟨rfl, hq⟩
  go_wp2
  go_ret
  exact ⟨rfl, hq⟩

theorem delim_any (s : ByteArray) (w : World) (hs : s.size ≤ 1000) :
    Calls Try.prog 27 #[.string s] w fun e w' => e = .returned (.bool (hasO 0 1 ko s)) ∧ Q w w' := by
  go_enter Try.func27, Try.ntmps27
  go_wp2_with fail
  refine (hasK 0 1 _ _ (by omega) (by omega) hs).mono ?_
  rintro e w1 ⟨rfl, hq⟩
  go_wp2
  go_ret
  exact ⟨rfl, hq⟩

/-- A bucket's name. -/
def bucketO (s : ByteArray) : Bool := hasO 3 20 bo s && ((s.data.toList.headD 0).toNat : Int) != 45 && ((s.data.toList.getLastD 0).toNat : Int) != 45

theorem hasO_size {lo hi : Nat} {p : Int → Bool} {s : ByteArray} (h : hasO lo hi p s = true) : lo ≤ s.size ∧ s.size ≤ hi := by
  simp [hasO] at h; omega
theorem head_at (s : ByteArray) (h : 0 < s.size) : s.data.toList.headD 0 = s[0] := by
  obtain ⟨⟨l⟩⟩ := s
  cases l with
  | nil => simp [ByteArray.size] at h
  | cons a l => rfl
theorem last_at (s : ByteArray) (h : 0 < s.size) : s.data.toList.getLastD 0 = s[s.size - 1] := by
  obtain ⟨⟨l⟩⟩ := s
  cases l with
  | nil => simp [ByteArray.size] at h
  | cons a l =>
    show (a :: l).getLastD 0 = (a :: l)[(a :: l).length - 1]
    rw [List.getLastD_eq_getLast?, List.getLast?_eq_getElem?]; simp

end Go.Proofs.Ytipipjpdlblifaa
