/-
  Small words of stage 1 over Core: the statements' Few of a text, and orders of texts. Contracts of name's Bucket, Key, Prefix, Delim and of what they call. Contracts of the document's own answers: keys, Bucket, Key, Prefix, Delim, Under.
-/
import Derived.Test.YtjjlbbfhmpbneaaGreatHa
namespace Go.Proofs.YtjjlbbfhmpbneaaGreat
set_option maxRecDepth 100000
open Go.ChangeShapes Go.WideShapes Go.ChangeAt Go.RowKit
set_option linter.unusedVariables false
set_option linter.unusedSimpArgs false
@[go_sem] theorem binOp_string_geq (t : TypeId) (a b : ByteArray) : binOp .geq t (.string a) (.string b) = pure (.bool !(Op.bytesLess a.toList b.toList)) := by simp [binOp, Op.stringOp]
@[go_sem] theorem binOp_string_gtr (t : TypeId) (a b : ByteArray) : binOp .gtr t (.string a) (.string b) = pure (.bool !(Op.bytesLess a.toList b.toList || a.toList == b.toList)) := by simp [binOp, Op.stringOp]
@[go_sem] theorem binOp_string_leq (t : TypeId) (a b : ByteArray) : binOp .leq t (.string a) (.string b) = pure (.bool (Op.bytesLess a.toList b.toList || a.toList == b.toList)) := by simp [binOp, Op.stringOp]
def fewS (s : ByteArray) : ByteArray := if 80 < s.size then s.extract 0 80 else s
theorem fewS_size (s : ByteArray) : (fewS s).size ≤ 80 := by
  unfold fewS; split
  · simp; omega
  · omega
theorem fewS_any (s : ByteArray) (w : World) (hs : s.size ≤ maxLen) :
    Calls Tryz.prog 22 #[.string s] w fun e w' => e = .returned (.string (fewS s)) ∧ w = w' := by
  unfold maxLen at hs
  have hf : fewS s = if 80 < s.size then s.extract 0 80 else s := rfl
  have HF := Lib.hid hf
  clear hf
  by_cases h : 80 < s.size
  · go_enter Tryz.func22, Tryz.ntmps22
    go_wp2
    go_ret
    exact ⟨ret_str (by rw [HF.out, if_pos h]), rfl⟩
  · go_enter Tryz.func22, Tryz.ntmps22
    go_wp2
    go_ret
    exact ⟨ret_str (by rw [HF.out, if_neg h]), rfl⟩
end Go.Proofs.YtjjlbbfhmpbneaaGreat

namespace Go.Proofs.YtjjlbbfhmpbneaaGreat
set_option maxRecDepth 100000
set_option linter.unusedVariables false
open Go.ChangeShapes Go.WideShapes Go.ChangeAt Go.RowKit
def ko (n : Int) : Bool := decide (32 ≤ n) && decide (n ≤ 126)
def bo (n : Int) : Bool := (decide (97 ≤ n) && decide (n ≤ 122)) || (decide (48 ≤ n) && decide (n ≤ 57)) || n == 45
theorem ko_any (n : Int) (w : World) (h0 : 0 ≤ n) (h1 : n ≤ 255) :
    Calls Tryz.prog 106 #[.int .u8 n] w fun e w' => e = .returned (.bool (ko n)) ∧ w = w' := by
  have HF := Lib.hid (show ko n = (decide (32 ≤ n) && decide (n ≤ 126)) from rfl)
  by_cases a : 32 ≤ n <;> by_cases b : n ≤ 126
  all_goals
    go_enter Tryz.func106, Tryz.ntmps106
    go_wp2
    go_ret
    exact ⟨ret_bool (by rw [HF.out]; simp [*]), rfl⟩
theorem bo_any (n : Int) (w : World) (h0 : 0 ≤ n) (h1 : n ≤ 255) :
    Calls Tryz.prog 92 #[.int .u8 n] w fun e w' => e = .returned (.bool (bo n)) ∧ w = w' := by
  have HF := Lib.hid (show bo n = ((decide (97 ≤ n) && decide (n ≤ 122)) || (decide (48 ≤ n) && decide (n ≤ 57)) || n == 45) from rfl)
  by_cases a : 97 ≤ n <;> by_cases b : n ≤ 122 <;> by_cases c : 48 ≤ n <;> by_cases d : n ≤ 57 <;> by_cases e : n = 45
  all_goals first | (exfalso; omega) | skip
  all_goals
    have e' : (n == 45) = decide (n = 45) := by rw [Bool.eq_iff_iff]; simp
    have E := Lib.hid e
    first | (have e1 : (n == 45) = true := by simp [e]) | (have e1 : (n == 45) = false := by simp [e])
    clear e e'
    go_enter Tryz.func92, Tryz.ntmps92
    go_wp2
    go_ret
    exact ⟨ret_bool (by rw [HF.out]; simp [E.out, *]), rfl⟩
/-- All octets of a string do. -/
def allO (p : Int → Bool) (s : ByteArray) : Bool := s.data.toList.all fun c => p c.toNat
def hasO (lo hi : Nat) (p : Int → Bool) (s : ByteArray) : Bool := decide (lo ≤ s.size) && decide (s.size ≤ hi) && allO p s
theorem take_snoc (s : ByteArray) (k : Nat) (h : k < s.size) : s.data.toList.take (k + 1) = s.data.toList.take k ++ [s[k]] := by
  rw [List.take_succ_eq_append_getElem (by simpa using h)]; rfl
def okTo (p : Int → Bool) (s : ByteArray) (k : Nat) : Prop := (s.data.toList.take k).all (fun c => p c.toNat) = true
theorem okTo_zero (p : Int → Bool) (s : ByteArray) : okTo p s 0 := by simp [okTo]
theorem okTo_succ {p : Int → Bool} {s : ByteArray} {k : Nat} (h : k < s.size) (a : okTo p s k) (b : p (s[k].toNat : Int) = true) : okTo p s (k + 1) := by
  unfold okTo at *; rw [take_snoc s k h, List.all_append, a]; simp [b]
theorem okTo_end {p : Int → Bool} {s : ByteArray} (a : okTo p s s.size) : allO p s = true := by
  unfold okTo at a; rw [List.take_of_length_le (by simp)] at a; exact a
theorem okTo_not {p : Int → Bool} {s : ByteArray} {k : Nat} (h : k < s.size) (b : p (s[k].toNat : Int) = false) : allO p s = false := by
  unfold allO; rw [List.all_eq_false]; exact ⟨s[k], by rw [show s[k] = s.data.toList[k]'(by simpa using h) from rfl]; exact List.getElem_mem _, by simp [b]⟩
set_option maxHeartbeats 400000 in
theorem hasK (lo hi : Nat) (s : ByteArray) (w : World) (h1 : lo ≤ 1000) (h2 : hi ≤ 1000) (hs : s.size ≤ 1000) :
    Calls Tryz.prog 93 #[.agg #[.int .i64 lo, .int .i64 hi, .func (.func 106) #[] #[]], .string s] w fun e w' => e = .returned (.bool (hasO lo hi ko s)) ∧ Q w w' := by
  have HF := Lib.hid (show hasO lo hi ko s = (decide (lo ≤ s.size) && decide (s.size ≤ hi) && allO ko s) from rfl)
  have hq : ∀ o, Q w (w.alloc o) := fun o => (Q.refl w).alloc o
  have HQ := Lib.hid hq
  clear hq
  by_cases a : lo ≤ s.size
  · by_cases b : s.size ≤ hi
    · go_enter Tryz.func93, Tryz.ntmps93
      go_wp2_with fail
      go_loopw [20] (fun i w1 => ∃ k : Nat, k ≤ s.size ∧ i = .int .i64 k ∧ okTo ko s k ∧ w1.cell? ⟨w.heap.size, 2, none⟩ = some (.func (.func 106) #[] #[]) ∧ Q w w1) (fun i _ => s.size - (intOf i).toNat)
      case atStart => exact ⟨0, Nat.zero_le _, rfl, okTo_zero _ _, by simp [go_sem], HQ.out _⟩
      case round =>
        obtain ⟨k, hk, rfl, ho, hc, hq⟩ := hrel
        by_cases hlt : k < s.size
        · have hb : s[k].toNat < 256 := s[k].toNat_lt
          have h0 : (0 : Int) ≤ (s[k].toNat : Int) := by omega
          have h255 : (s[k].toNat : Int) ≤ 255 := by omega
          have hi1 : (0 : Int) ≤ (k : Int) := by omega
          by_cases hp : ko (s[k].toNat : Int) = true
          · go_wp2_with fail
            go_quiet ((exact quiet_left (ko_any _ _ h0 h255)))
            go_wp2
            go_roundw
            case rel => exact ⟨k + 1, by omega, by go_num, okTo_succ hlt ho hp, hc, hq.drewN _⟩
            case measure => simp [intOf]; omega
          · have hp' : ko (s[k].toNat : Int) = false := by simpa using hp
            clear hp
            go_wp2_with fail
            go_quiet ((exact quiet_left (ko_any _ _ h0 h255)))
            go_wp2
            go_ret
            exact ⟨ret_bool (by rw [HF.out, okTo_not hlt hp']; simp), hq.drewN _⟩
        · obtain rfl : k = s.size := by omega
          go_wp2
          go_ret
          exact ⟨ret_bool (by rw [HF.out, okTo_end ho]; simp [a, b]), hq⟩
    · go_enter Tryz.func93, Tryz.ntmps93
      go_wp2
      go_ret
      exact ⟨ret_bool (by rw [HF.out]; simp [b]), HQ.out _⟩
  · go_enter Tryz.func93, Tryz.ntmps93
    go_wp2
    go_ret
    exact ⟨ret_bool (by rw [HF.out]; simp [a]), HQ.out _⟩
set_option maxHeartbeats 400000 in
theorem hasB (lo hi : Nat) (s : ByteArray) (w : World) (h1 : lo ≤ 1000) (h2 : hi ≤ 1000) (hs : s.size ≤ 1000) :
    Calls Tryz.prog 93 #[.agg #[.int .i64 lo, .int .i64 hi, .func (.func 92) #[] #[]], .string s] w fun e w' => e = .returned (.bool (hasO lo hi bo s)) ∧ Q w w' := by
  have HF := Lib.hid (show hasO lo hi bo s = (decide (lo ≤ s.size) && decide (s.size ≤ hi) && allO bo s) from rfl)
  have hq : ∀ o, Q w (w.alloc o) := fun o => (Q.refl w).alloc o
  have HQ := Lib.hid hq
  clear hq
  by_cases a : lo ≤ s.size
  · by_cases b : s.size ≤ hi
    · go_enter Tryz.func93, Tryz.ntmps93
      go_wp2_with fail
      go_loopw [20] (fun i w1 => ∃ k : Nat, k ≤ s.size ∧ i = .int .i64 k ∧ okTo bo s k ∧ w1.cell? ⟨w.heap.size, 2, none⟩ = some (.func (.func 92) #[] #[]) ∧ Q w w1) (fun i _ => s.size - (intOf i).toNat)
      case atStart => exact ⟨0, Nat.zero_le _, rfl, okTo_zero _ _, by simp [go_sem], HQ.out _⟩
      case round =>
        obtain ⟨k, hk, rfl, ho, hc, hq⟩ := hrel
        by_cases hlt : k < s.size
        · have hb : s[k].toNat < 256 := s[k].toNat_lt
          have h0 : (0 : Int) ≤ (s[k].toNat : Int) := by omega
          have h255 : (s[k].toNat : Int) ≤ 255 := by omega
          have hi1 : (0 : Int) ≤ (k : Int) := by omega
          by_cases hp : bo (s[k].toNat : Int) = true
          · go_wp2_with fail
            go_quiet ((exact quiet_left (bo_any _ _ h0 h255)))
            go_wp2
            go_roundw
            case rel => exact ⟨k + 1, by omega, by go_num, okTo_succ hlt ho hp, hc, hq.drewN _⟩
            case measure => simp [intOf]; omega
          · have hp' : bo (s[k].toNat : Int) = false := by simpa using hp
            clear hp
            go_wp2_with fail
            go_quiet ((exact quiet_left (bo_any _ _ h0 h255)))
            go_wp2
            go_ret
            exact ⟨ret_bool (by rw [HF.out, okTo_not hlt hp']; simp), hq.drewN _⟩
        · obtain rfl : k = s.size := by omega
          go_wp2
          go_ret
          exact ⟨ret_bool (by rw [HF.out, okTo_end ho]; simp [a, b]), hq⟩
    · go_enter Tryz.func93, Tryz.ntmps93
      go_wp2
      go_ret
      exact ⟨ret_bool (by rw [HF.out]; simp [b]), HQ.out _⟩
  · go_enter Tryz.func93, Tryz.ntmps93
    go_wp2
    go_ret
    exact ⟨ret_bool (by rw [HF.out]; simp [a]), HQ.out _⟩
theorem key_any (s : ByteArray) (w : World) (hs : s.size ≤ 1000) :
    Calls Tryz.prog 57 #[.string s] w fun e w' => e = .returned (.bool (hasO 1 60 ko s)) ∧ Q w w' := by
  go_enter Tryz.func57, Tryz.ntmps57
  go_wp2_with fail
  refine (hasK 1 60 _ _ (by omega) (by omega) hs).mono ?_
  rintro e w1 ⟨rfl, hq⟩
  go_wp2
  go_ret
  exact ⟨rfl, hq⟩
/-- A bucket's name. -/
def bucketO (s : ByteArray) : Bool := hasO 3 20 bo s && ((s.data.toList.headD 0).toNat : Int) != 45 && ((s.data.toList.getLastD 0).toNat : Int) != 45
theorem hasO_size {lo hi : Nat} {p : Int → Bool} {s : ByteArray} (h : hasO lo hi p s = true) : lo ≤ s.size ∧ s.size ≤ hi := by
  simp [hasO] at h; omega
theorem head_at (s : ByteArray) (h : 0 < s.size) : s.data.toList.headD 0 = s[0] := by
  obtain ⟨⟨l⟩⟩ := s
  cases l with
  | nil => simp [ByteArray.size] at h
  | cons a l => rfl
theorem last_at (s : ByteArray) (h : 0 < s.size) : s.data.toList.getLastD 0 = s[s.size - 1] := by
  obtain ⟨⟨l⟩⟩ := s
  cases l with
  | nil => simp [ByteArray.size] at h
  | cons a l =>
    show (a :: l).getLastD 0 = (a :: l)[(a :: l).length - 1]
    rw [List.getLastD_eq_getLast?, List.getLast?_eq_getElem?]; simp
set_option maxHeartbeats 400000 in
theorem bucket_any (s : ByteArray) (w : World) (hs : s.size ≤ 1000) :
    Calls Tryz.prog 44 #[.string s] w fun e w' => e = .returned (.bool (bucketO s)) ∧ Q w w' := by
  have HF := Lib.hid (show bucketO s = (hasO 3 20 bo s && ((s.data.toList.headD 0).toNat : Int) != 45 && ((s.data.toList.getLastD 0).toNat : Int) != 45) from rfl)
  have hq : ∀ o, Q w (w.alloc o) := fun o => (Q.refl w).alloc o
  have HQ := Lib.hid hq
  clear hq
  cases hh : hasO 3 20 bo s with
  | false =>
    go_enter Tryz.func44, Tryz.ntmps44
    go_wp2_with fail
    refine (hasB 3 20 _ _ (by omega) (by omega) hs).mono ?_
    rintro e w1 ⟨rfl, hq⟩
    go_wp2
    go_ret
    exact ⟨ret_bool (by rw [HF.out]; simp [hh]), (HQ.out _).trans hq⟩
  | true =>
    have hz := hasO_size hh
    have e0 := head_at s (by omega)
    have e1 := last_at s (by omega)
    rw [e0, e1] at HF
    clear e0 e1
    have i1 : (0 : Int) ≤ (s.size : Int) - 1 := by omega
    have i2 : (s.size : Int) - 1 < s.size := by omega
    go_enter Tryz.func44, Tryz.ntmps44
    go_wp2_with fail
    refine (hasB 3 20 _ _ (by omega) (by omega) hs).mono ?_
    rintro e w1 ⟨rfl, hq⟩
    go_wp2
    all_goals
      go_ret
      exact ⟨ret_bool (by rw [HF.out, hh]; simp_all), (HQ.out _).trans hq⟩
end Go.Proofs.YtjjlbbfhmpbneaaGreat

namespace Go.Proofs.YtjjlbbfhmpbneaaGreat
set_option maxRecDepth 100000
set_option linter.unusedVariables false
open Go.ChangeShapes Go.WideShapes Go.ChangeAt Go.RowKit
set_option maxHeartbeats 400000 in
theorem rkeys_any (s : ByteArray) (w : World) (hs : s.size ≤ 1000) :
    Calls Tryz.prog 125 #[.string s] w fun e w' => e = .returned (.bool (allO ko s)) ∧ w = w' := by
  go_enter Tryz.func125, Tryz.ntmps125
  go_wp2_with fail
  go_loop [3] (fun i => ∃ k : Nat, k ≤ s.size ∧ i = .int .i64 k ∧ okTo ko s k) (fun i => s.size - (intOf i).toNat)
  case atStart => exact ⟨0, Nat.zero_le _, rfl, okTo_zero _ _⟩
  case round =>
    obtain ⟨k, hk, rfl, ho⟩ := hrel
    by_cases hlt : k < s.size
    · have hb : s[k].toNat < 256 := s[k].toNat_lt
      by_cases h1 : 32 ≤ (s[k].toNat : Int)
      · by_cases h2 : (s[k].toNat : Int) ≤ 126
        · have ho' : okTo ko s (k + 1) := okTo_succ hlt ho (by simp [ko]; omega)
          go_wp2
          go_round
          case rel => exact ⟨k + 1, by omega, by go_num, ho'⟩
          case measure => simp [intOf]; omega
        · have hn : allO ko s = false := okTo_not hlt (by simp [ko]; omega)
          have HN := Lib.hid hn
          clear hn
          go_wp2
          go_ret
          exact ⟨ret_bool (by rw [HN.out]), rfl⟩
      · have hn : allO ko s = false := okTo_not hlt (by simp [ko]; omega)
        have HN := Lib.hid hn
        clear hn
        go_wp2
        go_ret
        exact ⟨ret_bool (by rw [HN.out]), rfl⟩
    · obtain rfl : k = s.size := by omega
      go_wp2
      go_ret
      exact ⟨ret_bool (okTo_end ho).symm, rfl⟩
theorem ne_nil {s : ByteArray} (h : 0 < s.size) : ¬ s.toList = [] ∧ s.toList.isEmpty = false := by
  have : s.toList.length = s.size := by rw [ByteArray.toList_eq]; exact Array.length_toList
  cases hl : s.toList with
  | nil => rw [hl] at this; simp at this; omega
  | cons a l => simp
theorem is_nil {s : ByteArray} (h : s.size = 0) : s.toList = [] := by
  have : s.toList.length = s.size := by rw [ByteArray.toList_eq]; exact Array.length_toList
  cases hl : s.toList with
  | nil => rfl
  | cons a l => rw [hl] at this; simp at this; omega
theorem rkey_any (s : ByteArray) (w : World) (hs : s.size ≤ 1000) :
    Calls Tryz.prog 80 #[.string s] w fun e w' => e = .returned (.bool (hasO 1 60 ko s)) ∧ w = w' := by
  have HF := Lib.hid (show hasO 1 60 ko s = (decide (1 ≤ s.size) && decide (s.size ≤ 60) && allO ko s) from rfl)
  by_cases a : s.size = 0
  · have hn := is_nil a
    go_enter Tryz.func80, Tryz.ntmps80
    go_wp2
    go_ret
    exact ⟨ret_bool (by rw [HF.out]; simp [a]), rfl⟩
  · obtain ⟨h1, h2⟩ := ne_nil (s := s) (by omega)
    by_cases b : s.size ≤ 60
    · go_enter Tryz.func80, Tryz.ntmps80
      go_wp2_with fail
      refine (rkeys_any _ _ hs).mono ?_
      rintro e w1 ⟨rfl, rfl⟩
      go_wp2
      go_ret
      exact ⟨ret_bool (by rw [HF.out]; simp [b]; omega), rfl⟩
    · go_enter Tryz.func80, Tryz.ntmps80
      go_wp2
      go_ret
      exact ⟨ret_bool (by rw [HF.out]; simp [b]), rfl⟩
/-- One text begins with another one. -/
def underO (k p : ByteArray) : Bool := decide (p.size ≤ k.size) && (k.extract 0 p.size).toList == p.toList
/-- What the document's Bucket asks of the octet at place i. -/
def boAt (s : ByteArray) (i : Nat) (n : Int) : Bool := (decide (97 ≤ n) && decide (n ≤ 122)) || (decide (48 ≤ n) && decide (n ≤ 57)) || (n == 45 && !(i == 0 || i == s.size - 1))
def bkTo (s : ByteArray) (k : Nat) : Prop := ∀ i (h : i < s.size), i < k → boAt s i (s[i].toNat : Int) = true
theorem bkTo_succ {s : ByteArray} {k : Nat} (h : k < s.size) (a : bkTo s k) (b : boAt s k (s[k].toNat : Int) = true) : bkTo s (k + 1) := by
  intro i hi hik
  by_cases e : i = k
  · subst e; exact b
  · exact a i hi (by omega)
theorem allO_iff {p : Int → Bool} {s : ByteArray} : allO p s = true ↔ ∀ i (h : i < s.size), p (s[i].toNat : Int) = true := by
  unfold allO
  rw [List.all_eq_true]
  constructor
  · intro h i hi
    exact h s[i] (by rw [show s[i] = s.data.toList[i]'(by simpa using hi) from rfl]; exact List.getElem_mem _)
  · intro h c hc
    obtain ⟨i, hi, rfl⟩ := List.getElem_of_mem hc
    exact h i (by simpa using hi)
theorem bucketO_iff {s : ByteArray} (h3 : 3 ≤ s.size) (h20 : s.size ≤ 20) : bucketO s = true ↔ ∀ i (h : i < s.size), boAt s i (s[i].toNat : Int) = true := by
  unfold bucketO hasO
  rw [head_at s (by omega), last_at s (by omega)]
  simp only [Bool.and_eq_true, allO_iff, bne_iff_ne, decide_eq_true_eq, ne_eq]
  constructor
  · rintro ⟨⟨⟨_, h⟩, e0⟩, e1⟩ i hi
    have hb := h i hi
    unfold bo at hb
    unfold boAt
    simp only [Bool.or_eq_true, Bool.and_eq_true, decide_eq_true_eq, beq_iff_eq, Bool.not_eq_true'] at hb ⊢
    rcases hb with (hb | hb) | hb
    · exact .inl (.inl hb)
    · exact .inl (.inr hb)
    · refine .inr ⟨hb, ?_⟩
      simp only [Bool.or_eq_false_iff, beq_eq_false_iff_ne, ne_eq]
      refine ⟨?_, ?_⟩
      · rintro rfl; exact e0 hb
      · rintro rfl; exact e1 hb
  · intro h
    refine ⟨⟨⟨⟨by omega, by omega⟩, ?_⟩, ?_⟩, ?_⟩
    · intro i hi
      have hb := h i hi
      unfold boAt at hb
      unfold bo
      simp only [Bool.or_eq_true, Bool.and_eq_true, decide_eq_true_eq, beq_iff_eq, Bool.not_eq_true'] at hb ⊢
      rcases hb with hb | hb
      · exact .inl hb
      · exact .inr hb.1
    · intro e
      have hb := h 0 (by omega)
      unfold boAt at hb
      simp [e] at hb
    · intro e
      have hb := h (s.size - 1) (by omega)
      unfold boAt at hb
      simp [e] at hb
theorem bkTo_end {s : ByteArray} (h3 : 3 ≤ s.size) (h20 : s.size ≤ 20) (h : bkTo s s.size) : bucketO s = true :=
  (bucketO_iff h3 h20).2 fun i hi => h i hi hi
theorem bkTo_not {s : ByteArray} (h3 : 3 ≤ s.size) (h20 : s.size ≤ 20) {i : Nat} (h : i < s.size) (b : boAt s i (s[i].toNat : Int) = false) : bucketO s = false := by
  cases e : bucketO s with
  | false => rfl
  | true => have := (bucketO_iff h3 h20).1 e i h; rw [b] at this; cases this
set_option maxHeartbeats 4000000 in
theorem rbucket_any (s : ByteArray) (w : World) (hs : s.size ≤ 1000) :
    Calls Tryz.prog 50 #[.string s] w fun e w' => e = .returned (.bool (bucketO s)) ∧ w = w' := by
  have hz : bucketO s = true → 3 ≤ s.size ∧ s.size ≤ 20 := fun h => by
    unfold bucketO at h; simp only [Bool.and_eq_true] at h; exact hasO_size h.1.1
  by_cases a : 3 ≤ s.size
  · by_cases b : s.size ≤ 20
    · clear hz
      go_enter Tryz.func50, Tryz.ntmps50
      go_wp2_with fail
      go_loop [3] (fun i => ∃ k : Nat, k ≤ s.size ∧ i = .int .i64 k ∧ bkTo s k) (fun i => s.size - (intOf i).toNat)
      case atStart => exact ⟨0, Nat.zero_le _, rfl, fun _ _ h => by omega⟩
      case round =>
        obtain ⟨k, hk, rfl, ho⟩ := hrel
        by_cases hlt : k < s.size
        · have hb : s[k].toNat < 256 := s[k].toNat_lt
          have hd : k ≤ 0 ∨ (0 < k ∧ k + 1 < s.size) ∨ (0 < k ∧ s.size ≤ k + 1) := by omega
          have hc : (97 ≤ (s[k].toNat : Int) ∧ (s[k].toNat : Int) ≤ 122) ∨ (48 ≤ (s[k].toNat : Int) ∧ (s[k].toNat : Int) ≤ 57) ∨ (45 ≤ (s[k].toNat : Int) ∧ (s[k].toNat : Int) ≤ 45)
            ∨ (s[k].toNat : Int) < 45 ∨ (45 < (s[k].toNat : Int) ∧ (s[k].toNat : Int) < 48) ∨ (57 < (s[k].toNat : Int) ∧ (s[k].toNat : Int) < 97) ∨ 122 < (s[k].toNat : Int) := by omega
          have hg : boAt s k (s[k].toNat : Int) = true → bkTo s (k + 1) := bkTo_succ hlt ho
          have hn : boAt s k (s[k].toNat : Int) = false → bucketO s = false := bkTo_not a b hlt
          have HG := Lib.hid hg
          have HN := Lib.hid hn
          have HD := Lib.hid hd
          clear hg hn
          rcases hd with d | ⟨d, d'⟩ | ⟨d, d'⟩
          · obtain rfl : k = 0 := by omega
            clear d HD
            rcases hc with ⟨c, c'⟩ | ⟨c, c'⟩ | ⟨c, c'⟩ | c | ⟨c, c'⟩ | ⟨c, c'⟩ | c
            all_goals
              go_wp2
            all_goals
              first
                | (exfalso; rename_i h; simp at h; omega)
                | (go_round
                   case rel => exact ⟨1, by omega, rfl, HG.out (by unfold boAt; simp; omega)⟩
                   case measure => simp [intOf]; omega)
                | (go_ret; exact ⟨ret_bool (HN.out (by unfold boAt; simp; omega)).symm, rfl⟩)
          · clear HD
            have b1 : ((k : Int) == 0) = false := by simp; omega
            have b2 : ((k : Int) == (s.size : Int) - 1) = false := by simp; omega
            rcases hc with ⟨c, c'⟩ | ⟨c, c'⟩ | ⟨c, c'⟩ | c | ⟨c, c'⟩ | ⟨c, c'⟩ | c
            all_goals
              go_wp2
            all_goals
              first
                | (exfalso; rename_i h; simp at h; omega)
                | (go_round
                   case rel => exact ⟨k + 1, by omega, by go_num, HG.out (by unfold boAt; simp; omega)⟩
                   case measure => simp [intOf]; omega)
                | (go_ret; exact ⟨ret_bool (HN.out (by unfold boAt; simp; omega)).symm, rfl⟩)
          · clear HD
            have b1 : ((k : Int) == 0) = false := by simp; omega
            have b2 : ((k : Int) == (s.size : Int) - 1) = true := by simp; omega
            rcases hc with ⟨c, c'⟩ | ⟨c, c'⟩ | ⟨c, c'⟩ | c | ⟨c, c'⟩ | ⟨c, c'⟩ | c
            all_goals
              go_wp2
            all_goals
              first
                | (exfalso; rename_i h; simp at h; omega)
                | (go_round
                   case rel => exact ⟨k + 1, by omega, by go_num, HG.out (by unfold boAt; simp; omega)⟩
                   case measure => simp [intOf]; omega)
                | (go_ret; exact ⟨ret_bool (HN.out (by unfold boAt; simp; omega)).symm, rfl⟩)
        · obtain rfl : k = s.size := by omega
          go_wp2
          go_ret
          exact ⟨ret_bool (bkTo_end a b ho).symm, rfl⟩
    · have hn : bucketO s = false := by cases h : bucketO s with
        | false => rfl
        | true => have := hz h; omega
      have HN := Lib.hid hn
      clear hn hz
      go_enter Tryz.func50, Tryz.ntmps50
      go_wp2
      go_ret
      exact ⟨ret_bool (by rw [HN.out]), rfl⟩
  · have hn : bucketO s = false := by cases h : bucketO s with
      | false => rfl
      | true => have := hz h; omega
    have HN := Lib.hid hn
    clear hn hz
    go_enter Tryz.func50, Tryz.ntmps50
    go_wp2
    go_ret
    exact ⟨ret_bool (by rw [HN.out]), rfl⟩
end Go.Proofs.YtjjlbbfhmpbneaaGreat

