/-
  Contracts of the document's own answers: keys, Bucket, Key, Prefix, Delim, Under.
-/
import Derived.Test.YtipipjpdlblifaaNKinds
namespace Go.Proofs.Ytipipjpdlblifaa
set_option linter.unusedVariables false
open Go.ChangeShapes Go.WideShapes Go.ChangeAt Go.RowKit

set_option maxHeartbeats 400000 in
theorem rkeys_any (s : ByteArray) (w : World) (hs : s.size ≤ 1000) :
    Calls Try.prog 38 #[.string s] w fun e w' => e = .returned (.bool (allO ko s)) ∧ w = w' := by
  go_enter Try.func38, Try.ntmps38
  go_wp2_with fail
  go_loop [3] (fun i => ∃ k : Nat, k ≤ s.size ∧ i = .int .i64 k ∧ okTo ko s k) (fun i => s.size - (intOf i).toNat)
  case atStart => exact ⟨0, Nat.zero_le _, rfl, okTo_zero _ _⟩
  case round =>
    obtain ⟨k, hk, rfl, ho⟩ := hrel
    by_cases hlt : k < s.size
    · have hb : s[k].toNat < 256 := s[k].toNat_lt
      by_cases h1 : 32 ≤ (s[k].toNat : Int)
      · by_cases h2 : (s[k].toNat : Int) ≤ 126
        · have ho' : okTo ko s (k + 1) := okTo_succ hlt ho (by simp [ko]; omega)
          go_wp2
          go_round
          case rel => exact ⟨k + 1, by omega, by go_num, ho'⟩
          case measure => simp [intOf]; omega
        · have hn : allO ko s = false := okTo_not hlt (by simp [ko]; omega)
          have HN := Lib.hid hn
          clear hn
          go_wp2
          go_ret
          exact ⟨ret_bool (by rw [HN.out]), rfl⟩
      · have hn : allO ko s = false := okTo_not hlt (by simp [ko]; omega)
        have HN := Lib.hid hn
        clear hn
        go_wp2
        go_ret
        exact ⟨ret_bool (by rw [HN.out]), rfl⟩
    · obtain rfl : k = s.size := by omega
      go_wp2
      go_ret
      exact ⟨ret_bool (okTo_end ho).symm, rfl⟩

theorem ne_nil {s : ByteArray} (h : 0 < s.size) : ¬ s.toList = [] ∧ s.toList.isEmpty = false := by
  have : s.toList.length = s.size := by rw [ByteArray.toList_eq]; exact Array.length_toList
  cases hl : s.toList with
  | nil => rw [hl] at this; simp at this; omega
  | cons a l => simp
theorem is_nil {s : ByteArray} (h : s.size = 0) : s.toList = [] := by
  have : s.toList.length = s.size := by rw [ByteArray.toList_eq]; exact Array.length_toList
  cases hl : s.toList with
  | nil => rfl
  | cons a l => rw [hl] at this; simp at this; omega

theorem rkey_any (s : ByteArray) (w : World) (hs : s.size ≤ 1000) :
    Calls Try.prog 21 #[.string s] w fun e w' => e = .returned (.bool (hasO 1 60 ko s)) ∧ w = w' := by
  have HF := Lib.hid (show hasO 1 60 ko s = (decide (1 ≤ s.size) && decide (s.size ≤ 60) && allO ko s) from rfl)
  by_cases a : s.size = 0
  · have hn := is_nil a
    go_enter Try.func21, Try.ntmps21
    go_wp2
    go_ret
    exact ⟨ret_bool (by rw [HF.out]; simp [a]), rfl⟩
  · obtain ⟨h1, h2⟩ := ne_nil (s := s) (by omega)
    by_cases b : s.size ≤ 60
    · go_enter Try.func21, Try.ntmps21
      go_wp2_with fail
      refine (rkeys_any _ _ hs).mono ?_
      rintro e w1 ⟨rfl, rfl⟩
      go_wp2
      go_ret
      exact ⟨ret_bool (by rw [HF.out]; simp [b]; omega), rfl⟩
    · go_enter Try.func21, Try.ntmps21
      go_wp2
      go_ret
      exact ⟨ret_bool (by rw [HF.out]; simp [b]), rfl⟩

theorem rpref_any (s : ByteArray) (w : World) (hs : s.size ≤ 1000) :
    Calls Try.prog 31 #[.string s] w fun e w' => e = .returned (.bool (hasO 0 60 ko s)) ∧ w = w' := by
  have HF := Lib.hid (show hasO 0 60 ko s = (decide (0 ≤ s.size) && decide (s.size ≤ 60) && allO ko s) from rfl)
  by_cases b : s.size ≤ 60
  · go_enter Try.func31, Try.ntmps31
    go_wp2_with fail
    refine (rkeys_any _ _ hs).mono ?_
    rintro e w1 ⟨rfl, rfl⟩
    go_wp2
    go_ret
    exact ⟨ret_bool (by rw [HF.out]; simp [b]), rfl⟩
  · go_enter Try.func31, Try.ntmps31
    go_wp2
    go_ret
    exact ⟨ret_bool (by rw [HF.out]; simp [b]), rfl⟩

theorem rdelim_any (s : ByteArray) (w : World) (hs : s.size ≤ 1000) :
    Calls Try.prog 32 #[.string s] w fun e w' => e = .returned (.bool (hasO 0 1 ko s)) ∧ w = w' := by
  have HF := Lib.hid (show hasO 0 1 ko s = (decide (0 ≤ s.size) && decide (s.size ≤ 1) && allO ko s) from rfl)
  by_cases b : s.size ≤ 1
  · go_enter Try.func32, Try.ntmps32
    go_wp2_with fail
    refine (rkeys_any _ _ hs).mono ?_
    rintro e w1 ⟨rfl, rfl⟩
    go_wp2
    go_ret
    exact ⟨ret_bool (by rw [HF.out]; simp [b]), rfl⟩
  · go_enter Try.func32, Try.ntmps32
    go_wp2
    go_ret
    exact ⟨ret_bool (by rw [HF.out]; simp [b]), rfl⟩

/-- One text begins with another one. -/
def underO (k p : ByteArray) : Bool := decide (p.size ≤ k.size) && (k.extract 0 p.size).toList == p.toList

theorem under_any (k p : ByteArray) (w : World) (hk : k.size ≤ 1000) (hp : p.size ≤ 1000) :
    Calls Try.prog 46 #[.string k, .string p] w fun e w' => e = .returned (.bool (underO k p)) ∧ w = w' := by
  have HF := Lib.hid (show underO k p = (decide (p.size ≤ k.size) && (k.extract 0 p.size).toList == p.toList) from rfl)
  by_cases b : p.size ≤ k.size
  · go_enter Try.func46, Try.ntmps46
    go_wp2
    go_ret
    exact ⟨ret_bool (by rw [HF.out]; simp [b]), rfl⟩
  · go_enter Try.func46, Try.ntmps46
    go_wp2
    go_ret
    exact ⟨ret_bool (by rw [HF.out]; simp [b]), rfl⟩

theorem runder_any (k p : ByteArray) (w : World) (hk : k.size ≤ 1000) (hp : p.size ≤ 1000) :
    Calls Try.prog 25 #[.string k, .string p] w fun e w' => e = .returned (.bool (underO k p)) ∧ w = w' := by
  have HF := Lib.hid (show underO k p = (decide (p.size ≤ k.size) && (k.extract 0 p.size).toList == p.toList) from rfl)
  by_cases b : p.size ≤ k.size
  · go_enter Try.func25, Try.ntmps25
    go_wp2
    go_ret
    exact ⟨ret_bool (by rw [HF.out]; simp [b]), rfl⟩
  · go_enter Try.func25, Try.ntmps25
    go_wp2
    go_ret
    exact ⟨ret_bool (by rw [HF.out]; simp [b]), rfl⟩

/-- What the document's Bucket asks of the octet at place i. -/
def boAt (s : ByteArray) (i : Nat) (n : Int) : Bool := (decide (97 ≤ n) && decide (n ≤ 122)) || (decide (48 ≤ n) && decide (n ≤ 57)) || (n == 45 && !(i == 0 || i == s.size - 1))
def bkTo (s : ByteArray) (k : Nat) : Prop := ∀ i (h : i < s.size), i < k → boAt s i (s[i].toNat : Int) = true

theorem bkTo_succ {s : ByteArray} {k : Nat} (h : k < s.size) (a : bkTo s k) (b : boAt s k (s[k].toNat : Int) = true) : bkTo s (k + 1) := by
  intro i hi hik
  by_cases e : i = k
  · subst e; exact b
  · exact a i hi (by omega)
theorem allO_iff {p : Int → Bool} {s : ByteArray} : allO p s = true ↔ ∀ i (h : i < s.size), p (s[i].toNat : Int) = true := by
  unfold allO
  rw [List.all_eq_true]
  constructor
  · intro h i hi
    exact h s[i] (by rw [show s[i] = s.data.toList[i]'(by simpa using hi) from rfl]; exact List.getElem_mem _)
  · intro h c hc
    obtain ⟨i, hi, rfl⟩ := List.getElem_of_mem hc
    exact h i (by simpa using hi)
theorem bucketO_iff {s : ByteArray} (h3 : 3 ≤ s.size) (h20 : s.size ≤ 20) : bucketO s = true ↔ ∀ i (h : i < s.size), boAt s i (s[i].toNat : Int) = true := by
  unfold bucketO hasO
  rw [head_at s (by omega), last_at s (by omega)]
  simp only [Bool.and_eq_true, allO_iff, bne_iff_ne, decide_eq_true_eq, ne_eq]
  constructor
  · rintro ⟨⟨⟨_, h⟩, e0⟩, e1⟩ i hi
    have hb := h i hi
    unfold bo at hb
    unfold boAt
    simp only [Bool.or_eq_true, Bool.and_eq_true, decide_eq_true_eq, beq_iff_eq, Bool.not_eq_true'] at hb ⊢
    rcases hb with (hb | hb) | hb
    · exact .inl (.inl hb)
    · exact .inl (.inr hb)
    · refine .inr ⟨hb, ?_⟩
      simp only [Bool.or_eq_false_iff, beq_eq_false_iff_ne, ne_eq]
      refine ⟨?_, ?_⟩
      · rintro rfl; exact e0 hb
      · rintro rfl; exact e1 hb
  · intro h
    refine ⟨⟨⟨⟨by omega, by omega⟩, ?_⟩, ?_⟩, ?_⟩
    · intro i hi
      have hb := h i hi
      unfold boAt at hb
      unfold bo
      simp only [Bool.or_eq_true, Bool.and_eq_true, decide_eq_true_eq, beq_iff_eq, Bool.not_eq_true'] at hb ⊢
      rcases hb with hb | hb
      · exact .inl hb
      · exact .inr hb.1
    · intro e
      have hb := h 0 (by omega)
      unfold boAt at hb
      simp [e] at hb
    · intro e
      have hb := h (s.size - 1) (by omega)
      unfold boAt at hb
      simp [e] at hb
theorem bkTo_end {s : ByteArray} (h3 : 3 ≤ s.size) (h20 : s.size ≤ 20) (h : bkTo s s.size) : bucketO s = true :=
  (bucketO_iff h3 h20).2 fun i hi => h i hi hi
theorem bkTo_not {s : ByteArray} (h3 : 3 ≤ s.size) (h20 : s.size ≤ 20) {i : Nat} (h : i < s.size) (b : boAt s i (s[i].toNat : Int) = false) : bucketO s = false := by
  cases e : bucketO s with
  | false => rfl
  | true => have := (bucketO_iff h3 h20).1 e i h; rw [b] at this; cases this

end Go.Proofs.Ytipipjpdlblifaa
