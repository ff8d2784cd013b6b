/-
  Small words of stage 1 over Core: the statements' Few of a text, and orders of texts. Contracts of name's Bucket, Key, Prefix, Delim and of what they call. Contracts of the document's own answers: keys, Bucket, Key, Prefix, Delim, Under.
-/
import Derived.Test.YtjjlbbfhmpbneaaGreatKa
namespace Go.Proofs.YtjjlbbfhmpbneaaGreat
set_option maxRecDepth 100000
open Go.ChangeShapes Go.WideShapes Go.ChangeAt Go.RowKit
set_option linter.unusedVariables false
set_option linter.unusedSimpArgs false
@[go_sem] theorem binOp_string_geq (t : TypeId) (a b : ByteArray) : binOp .geq t (.string a) (.string b) = pure (.bool !(Op.bytesLess a.toList b.toList)) := by simp [binOp, Op.stringOp]
@[go_sem] theorem binOp_string_gtr (t : TypeId) (a b : ByteArray) : binOp .gtr t (.string a) (.string b) = pure (.bool !(Op.bytesLess a.toList b.toList || a.toList == b.toList)) := by simp [binOp, Op.stringOp]
@[go_sem] theorem binOp_string_leq (t : TypeId) (a b : ByteArray) : binOp .leq t (.string a) (.string b) = pure (.bool (Op.bytesLess a.toList b.toList || a.toList == b.toList)) := by simp [binOp, Op.stringOp]
def fewS (s : ByteArray) : ByteArray := if 80 < s.size then s.extract 0 80 else s
theorem fewS_size (s : ByteArray) : (fewS s).size ≤ 80 := by
  unfold fewS; split
  · simp; omega
  · omega
theorem fewS_any (s : ByteArray) (w : World) (hs : s.size ≤ maxLen) :
    Calls Tryz.prog 22 #[.string s] w fun e w' => e = .returned (.string (fewS s)) ∧ w = w' := by
  unfold maxLen at hs
  have hf : fewS s = if 80 < s.size then s.extract 0 80 else s := rfl
  have HF := Lib.hid hf
  clear hf
  by_cases h : 80 < s.size
  · go_enter Tryz.func22, Tryz.ntmps22
    go_wp2
    go_ret
    exact ⟨ret_str (by rw [HF.out, if_pos h]), rfl⟩
  · go_enter Tryz.func22, Tryz.ntmps22
    go_wp2
    go_ret
    exact ⟨ret_str (by rw [HF.out, if_neg h]), rfl⟩
end Go.Proofs.YtjjlbbfhmpbneaaGreat

namespace Go.Proofs.YtjjlbbfhmpbneaaGreat
set_option maxRecDepth 100000
set_option linter.unusedVariables false
open Go.ChangeShapes Go.WideShapes Go.ChangeAt Go.RowKit
def ko (n : Int) : Bool := decide (32 ≤ n) && decide (n ≤ 126)
def bo (n : Int) : Bool := (decide (97 ≤ n) && decide (n ≤ 122)) || (decide (48 ≤ n) && decide (n ≤ 57)) || n == 45
theorem ko_any (n : Int) (w : World) (h0 : 0 ≤ n) (h1 : n ≤ 255) :
    Calls Tryz.prog 106 #[.int .u8 n] w fun e w' => e = .returned (.bool (ko n)) ∧ w = w' := by
  have HF := Lib.hid (show ko n = (decide (32 ≤ n) && decide (n ≤ 126)) from rfl)
  by_cases a : 32 ≤ n <;> by_cases b : n ≤ 126
  all_goals
    go_enter Tryz.func106, Tryz.ntmps106
    go_wp2
    go_ret
    exact ⟨ret_bool (by rw [HF.out]; simp [*]), rfl⟩
theorem bo_any (n : Int) (w : World) (h0 : 0 ≤ n) (h1 : n ≤ 255) :
    Calls Tryz.prog 92 #[.int .u8 n] w fun e w' => e = .returned (.bool (bo n)) ∧ w = w' := by
  have HF := Lib.hid (show bo n = ((decide (97 ≤ n) && decide (n ≤ 122)) || (decide (48 ≤ n) && decide (n ≤ 57)) || n == 45) from rfl)
  by_cases a : 97 ≤ n <;> by_cases b : n ≤ 122 <;> by_cases c : 48 ≤ n <;> by_cases d : n ≤ 57 <;> by_cases e : n = 45
  all_goals first | (exfalso; omega) | skip
  all_goals
    have e' : (n == 45) = decide (n = 45) := by rw [Bool.eq_iff_iff]; simp
    have E := Lib.hid e
    first | (have e1 : (n == 45) = true := by simp [e]) | (have e1 : (n == 45) = false := by simp [e])
    clear e e'
    go_enter Tryz.func92, Tryz.ntmps92
    go_wp2
    go_ret
    exact ⟨ret_bool (by rw [HF.out]; simp [E.out, *]), rfl⟩
/-- All octets of a string do. -/
def allO (p : Int → Bool) (s : ByteArray) : Bool := s.data.toList.all fun c => p c.toNat
def hasO (lo hi : Nat) (p : Int → Bool) (s : ByteArray) : Bool := decide (lo ≤ s.size) && decide (s.size ≤ hi) && allO p s
theorem take_snoc (s : ByteArray) (k : Nat) (h : k < s.size) : s.data.toList.take (k + 1) = s.data.toList.take k ++ [s[k]] := by
  rw [List.take_succ_eq_append_getElem (by simpa using h)]; rfl
def okTo (p : Int → Bool) (s : ByteArray) (k : Nat) : Prop := (s.data.toList.take k).all (fun c => p c.toNat) = true
theorem okTo_zero (p : Int → Bool) (s : ByteArray) : okTo p s 0 := by simp [okTo]
theorem okTo_succ {p : Int → Bool} {s : ByteArray} {k : Nat} (h : k < s.size) (a : okTo p s k) (b : p (s[k].toNat : Int) = true) : okTo p s (k + 1) := by
  unfold okTo at *; rw [take_snoc s k h, List.all_append, a]; simp [b]
theorem okTo_end {p : Int → Bool} {s : ByteArray} (a : okTo p s s.size) : allO p s = true := by
  unfold okTo at a; rw [List.take_of_length_le (by simp)] at a; exact a
theorem okTo_not {p : Int → Bool} {s : ByteArray} {k : Nat} (h : k < s.size) (b : p (s[k].toNat : Int) = false) : allO p s = false := by
  unfold allO; rw [List.all_eq_false]; exact ⟨s[k], by rw [show s[k] = s.data.toList[k]'(by simpa using h) from rfl]; exact List.getElem_mem _, by simp [b]⟩
set_option maxHeartbeats 400000 in
theorem hasK (lo hi : Nat) (s : ByteArray) (w : World) (h1 : lo ≤ 1000) (h2 : hi ≤ 1000) (hs : s.size ≤ 1000) :
    Calls Tryz.prog 93 #[.agg #[.int .i64 lo, .int .i64 hi, .func (.func 106) #[] #[]], .string s] w fun e w' => e = .returned (.bool (hasO lo hi ko s)) ∧ Q w w' := by
  have HF := Lib.hid (show hasO lo hi ko s = (decide (lo ≤ s.size) && decide (s.size ≤ hi) && allO ko s) from rfl)
  have hq : ∀ o, Q w (w.alloc o) := fun o => (Q.refl w).alloc o
  have HQ := Lib.hid hq
  clear hq
  by_cases a : lo ≤ s.size
  · by_cases b : s.size ≤ hi
    · go_enter Tryz.func93, Tryz.ntmps93
      go_wp2_with fail
      go_loopw [20] (fun i w1 => ∃ k : Nat, k ≤ s.size ∧ i = .int .i64 k ∧ okTo ko s k ∧ w1.cell? ⟨w.heap.size, 2, none⟩ = some (.func (.func 106) #[] #[]) ∧ Q w w1) (fun i _ => s.size - (intOf i).toNat)
      case atStart => exact ⟨0, Nat.zero_le _, rfl, okTo_zero _ _, by simp [go_sem], HQ.out _⟩
      case round =>
        obtain ⟨k, hk, rfl, ho, hc, hq⟩ := hrel
        by_cases hlt : k < s.size
        · have hb : s[k].toNat < 256 := s[k].toNat_lt
          have h0 : (0 : Int) ≤ (s[k].toNat : Int) := by omega
          have h255 : (s[k].toNat : Int) ≤ 255 := by omega
          have hi1 : (0 : Int) ≤ (k : Int) := by omega
          by_cases hp : ko (s[k].toNat : Int) = true
          · go_wp2_with fail
            go_quiet ((exact quiet_left (ko_any _ _ h0 h255)))
            go_wp2
            go_roundw
            case rel => exact ⟨k + 1, by omega, by go_num, okTo_succ hlt ho hp, hc, hq.drewN _⟩
            case measure => simp [intOf]; omega
          · have hp' : ko (s[k].toNat : Int) = false := by simpa using hp
            clear hp
            go_wp2_with fail
            go_quiet ((exact quiet_left (ko_any _ _ h0 h255)))
            go_wp2
            go_ret
            exact ⟨ret_bool (by rw [HF.out, okTo_not hlt hp']; simp), hq.drewN _⟩
        · obtain rfl : k = s.size := by omega
          go_wp2
          go_ret
          exact ⟨ret_bool (by rw [HF.out, okTo_end ho]; simp [a, b]), hq⟩
    · go_enter Tryz.func93, Tryz.ntmps93
      go_wp2
      go_ret
      exact ⟨ret_bool (by rw [HF.out]; simp [b]), HQ.out _⟩
  · go_enter Tryz.func93, Tryz.ntmps93
    go_wp2
    go_ret
    exact ⟨ret_bool (by rw [HF.out]; simp [a]), HQ.out _⟩
set_option maxHeartbeats 400000 in
theorem hasB (lo hi : Nat) (s : ByteArray) (w : World) (h1 : lo ≤ 1000) (h2 : hi ≤ 1000) (hs : s.size ≤ 1000) :
    Calls Tryz.prog 93 #[.agg #[.int .i64 lo, .int .i64 hi, .func (.func 92) #[] #[]], .string s] w fun e w' => e = .returned (.bool (hasO lo hi bo s)) ∧ Q w w' := by
  have HF := Lib.hid (show hasO lo hi bo s = (decide (lo ≤ s.size) && decide (s.size ≤ hi) && allO bo s) from rfl)
  have hq : ∀ o, Q w (w.alloc o) := fun o => (Q.refl w).alloc o
  have HQ := Lib.hid hq
  clear hq
  by_cases a : lo ≤ s.size
  · by_cases b : s.size ≤ hi
    · go_enter Tryz.func93, Tryz.ntmps93
      go_wp2_with fail
      go_loopw [20] (fun i w1 => ∃ k : Nat, k ≤ s.size ∧ i = .int .i64 k ∧ okTo bo s k ∧ w1.cell? ⟨w.heap.size, 2, none⟩ = some (.func (.func 92) #[] #[]) ∧ Q w w1) (fun i _ => s.size - (intOf i).toNat)
      case atStart => exact ⟨0, Nat.zero_le _, rfl, okTo_zero _ _, by simp [go_sem], HQ.out _⟩
      case round =>
        obtain ⟨k, hk, rfl, ho, hc, hq⟩ := hrel
        by_cases hlt : k < s.size
        · have hb : s[k].toNat < 256 := s[k].toNat_lt
          have h0 : (0 : Int) ≤ (s[k].toNat : Int) := by omega
          have h255 : (s[k].toNat : Int) ≤ 255 := by omega
          have hi1 : (0 : Int) ≤ (k : Int) := by omega
          by_cases hp : bo (s[k].toNat : Int) = true
          · go_wp2_with fail
            go_quiet ((exact quiet_left (bo_any _ _ h0 h255)))
            go_wp2
            go_roundw
            case rel => exact ⟨k + 1, by omega, by go_num, okTo_succ hlt ho hp, hc, hq.drewN _⟩
            case measure => simp [intOf]; omega
          · have hp' : bo (s[k].toNat : Int) = false := by simpa using hp
            clear hp
            go_wp2_with fail
            go_quiet ((exact quiet_left (bo_any _ _ h0 h255)))
            go_wp2
            go_ret
            exact ⟨ret_bool (by rw [HF.out, okTo_not hlt hp']; simp), hq.drewN _⟩
        · obtain rfl : k = s.size := by omega
          go_wp2
          go_ret
          exact ⟨ret_bool (by rw [HF.out, okTo_end ho]; simp [a, b]), hq⟩
    · go_enter Tryz.func93, Tryz.ntmps93
      go_wp2
      go_ret
      exact ⟨ret_bool (by rw [HF.out]; simp [b]), HQ.out _⟩
  · go_enter Tryz.func93, Tryz.ntmps93
    go_wp2
    go_ret
    exact ⟨ret_bool (by rw [HF.out]; simp [a]), HQ.out _⟩
theorem key_any (s : ByteArray) (w : World) (hs : s.size ≤ 1000) :
    Calls Tryz.prog 57 #[.string s] w fun e w' => e = .returned (.bool (hasO 1 60 ko s)) ∧ Q w w' := by
  go_enter Tryz.func57, Tryz.ntmps57
  go_wp2_with fail
  refine (hasK 1 60 _ _ (by omega) (by omega) hs).mono ?_
  rintro e w1 ⟨rfl, hq⟩
  go_wp2
  go_ret
  exact ⟨rfl, hq⟩
/-- A bucket's name. -/
def bucketO (s : ByteArray) : Bool := hasO 3 20 bo s && ((s.data.toList.headD 0).toNat : Int) != 45 && ((s.data.toList.getLastD 0).toNat : Int) != 45
theorem hasO_size {lo hi : Nat} {p : Int → Bool} {s : ByteArray} (h : hasO lo hi p s = true) : lo ≤ s.size ∧ s.size ≤ hi := by
  simp [hasO] at h; omega
theorem head_at (s : ByteArray) (h : 0 < s.size) : s.data.toList.headD 0 = s[0] := by
  obtain ⟨⟨l⟩⟩ := s
  cases l with
  | nil => simp [ByteArray.size] at h
  | cons a l => rfl
theorem last_at (s : ByteArray) (h : 0 < s.size) : s.data.toList.getLastD 0 = s[s.size - 1] := by
  obtain ⟨⟨l⟩⟩ := s
  cases l with
  | nil => simp [ByteArray.size] at h
  | cons a l =>
    show (a :: l).getLastD 0 = (a :: l)[(a :: l).length - 1]
    rw [List.getLastD_eq_getLast?, List.getLast?_eq_getElem?]; simp
set_option maxHeartbeats 400000 in
theorem bucket_any (s : ByteArray) (w : World) (hs : s.size ≤ 1000) :
    Calls Tryz.prog 44 #[.string s] w fun e w' => e = .returned (.bool (bucketO s)) ∧ Q w w' := by
  have HF := Lib.hid (show bucketO s = (hasO 3 20 bo s && ((s.data.toList.headD 0).toNat : Int) != 45 && ((s.data.toList.getLastD 0).toNat : Int) != 45) from rfl)
  have hq : ∀ o, Q w (w.alloc o) := fun o => (Q.refl w).alloc o
  have HQ := Lib.hid hq
  clear hq
  cases hh : hasO 3 20 bo s with
  | false =>
    go_enter Tryz.func44, Tryz.ntmps44
    go_wp2_with fail
    refine (hasB 3 20 _ _ (by omega) (by omega) hs).mono ?_
    rintro e w1 ⟨rfl, hq⟩
    go_wp2
    go_ret
    exact ⟨ret_bool (by rw [HF.out]; simp [hh]), (HQ.out _).trans hq⟩
  | true =>
    have hz := hasO_size hh
    have e0 := head_at s (by omega)
    have e1 := last_at s (by omega)
    rw [e0, e1] at HF
    clear e0 e1
    have i1 : (0 : Int) ≤ (s.size : Int) - 1 := by omega
    have i2 : (s.size : Int) - 1 < s.size := by omega
    go_enter Tryz.func44, Tryz.ntmps44
    go_wp2_with fail
    refine (hasB 3 20 _ _ (by omega) (by omega) hs).mono ?_
    rintro e w1 ⟨rfl, hq⟩
    go_wp2
    all_goals
      go_ret
      exact ⟨ret_bool (by rw [HF.out, hh]; simp_all), (HQ.out _).trans hq⟩
end Go.Proofs.YtjjlbbfhmpbneaaGreat

namespace Go.Proofs.YtjjlbbfhmpbneaaGreat
set_option maxRecDepth 100000
set_option linter.unusedVariables false
open Go.ChangeShapes Go.WideShapes Go.ChangeAt Go.RowKit
/-- One text begins with another one. -/
def underO (k p : ByteArray) : Bool := decide (p.size ≤ k.size) && (k.extract 0 p.size).toList == p.toList
/-- What the document's Bucket asks of the octet at place i. -/
def boAt (s : ByteArray) (i : Nat) (n : Int) : Bool := (decide (97 ≤ n) && decide (n ≤ 122)) || (decide (48 ≤ n) && decide (n ≤ 57)) || (n == 45 && !(i == 0 || i == s.size - 1))
def bkTo (s : ByteArray) (k : Nat) : Prop := ∀ i (h : i < s.size), i < k → boAt s i (s[i].toNat : Int) = true
end Go.Proofs.YtjjlbbfhmpbneaaGreat

