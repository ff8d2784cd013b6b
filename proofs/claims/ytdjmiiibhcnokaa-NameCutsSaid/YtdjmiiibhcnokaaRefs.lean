/-
  Contracts of the document's own answers: keys, Bucket, Key, Prefix, Delim, Under.
-/
import Derived.Test.YtdjmiiibhcnokaaKinds
namespace Go.Proofs.Ytdjmiiibhcnokaa
set_option linter.unusedVariables false
open Go.ChangeShapes Go.WideShapes Go.ChangeAt Go.RowKit

set_option maxHeartbeats 400000 in
theorem rkeys_any (s : ByteArray) (w : World) (hs : s.size ≤ 1000) :
    Calls Try.prog 29 #[.string s] w fun e w' => e = .returned (.bool (allO ko s)) ∧ w = w' := by
  go_enter Try.func29, Try.ntmps29
  go_wp2_with fail
  go_loop [3] (fun i => ∃ k : Nat, k ≤ s.size ∧ i = .int .i64 k ∧ okTo ko s k) (fun i => s.size - (intOf i).toNat)
  case atStart => exact ⟨0, Nat.zero_le _, rfl, okTo_zero _ _⟩
  case round =>
    obtain ⟨k, hk, rfl, ho⟩ := hrel
    by_cases hlt : k < s.size
    · have hb : s[k].toNat < 256 := s[k].toNat_lt
      by_cases h1 : 32 ≤ (s[k].toNat : Int)
      · by_cases h2 : (s[k].toNat : Int) ≤ 126
        · have ho' : okTo ko s (k + 1) := okTo_succ hlt ho (by simp [ko]; omega)
          go_wp2
          go_round
          case rel => exact ⟨k + 1, by omega, by go_num, ho'⟩
          case measure => simp [intOf]; omega
        · have hn : allO ko s = false := okTo_not hlt (by simp [ko]; omega)
          have HN := Lib.hid hn
          clear hn
          go_wp2
          go_ret
          exact ⟨ret_bool (by rw [HN.out]), rfl⟩
      · have hn : allO ko s = false := okTo_not hlt (by simp [ko]; omega)
        have HN := Lib.hid hn
        clear hn
        go_wp2
        go_ret
        exact ⟨ret_bool (by rw [HN.out]), rfl⟩
    · obtain rfl : k = s.size := by omega
      go_wp2
      go_ret
      exact ⟨ret_bool (okTo_end ho).symm, rfl⟩

theorem ne_nil {s : ByteArray} (h : 0 < s.size) : ¬ s.toList = [] ∧ s.toList.isEmpty = false := by
  have : s.toList.length = s.size := by rw [ByteArray.toList_eq]; exact Array.length_toList
  cases hl : s.toList with
  | nil => rw [hl] at this; simp at this; omega
  | cons a l => simp
theorem is_nil {s : ByteArray} (h : s.size = 0) : s.toList = [] := by
  have : s.toList.length = s.size := by rw [ByteArray.toList_eq]; exact Array.length_toList
  cases hl : s.toList with
  | nil => rfl
  | cons a l => rw [hl] at this; simp at this; omega

theorem rkey_any (s : ByteArray) (w : World) (hs : s.size ≤ 1000) :
    Calls Try.prog 14 #[.string s] w fun e w' => e = .returned (.bool (hasO 1 60 ko s)) ∧ w = w' := by
  have HF := Lib.hid (show hasO 1 60 ko s = (decide (1 ≤ s.size) && decide (s.size ≤ 60) && allO ko s) from rfl)
  by_cases a : s.size = 0
  · have hn := is_nil a
    go_enter Try.func14, Try.ntmps14
    go_wp2
    go_ret
    exact ⟨ret_bool (by rw [HF.out]; simp [a]), rfl⟩
  · obtain ⟨h1, h2⟩ := ne_nil (s := s) (by omega)
    by_cases b : s.size ≤ 60
    · go_enter Try.func14, Try.ntmps14
      go_wp2_with fail
      refine (rkeys_any _ _ hs).mono ?_
      rintro e w1 ⟨rfl, rfl⟩
      go_wp2
      go_ret
      exact ⟨ret_bool (by rw [HF.out]; simp [b]; omega), rfl⟩
    · go_enter Try.func14, Try.ntmps14
      go_wp2
      go_ret
      exact ⟨ret_bool (by rw [HF.out]; simp [b]), rfl⟩

theorem rpref_any (s : ByteArray) (w : World) (hs : s.size ≤ 1000) :
    Calls Try.prog 16 #[.string s] w fun e w' => e = .returned (.bool (hasO 0 60 ko s)) ∧ w = w' := by
  have HF := Lib.hid (show hasO 0 60 ko s = (decide (0 ≤ s.size) && decide (s.size ≤ 60) && allO ko s) from rfl)
  by_cases b : s.size ≤ 60
  · go_enter Try.func16, Try.ntmps16
    go_wp2_with fail
    refine (rkeys_any _ _ hs).mono ?_
    rintro e w1 ⟨rfl, rfl⟩
    go_wp2
    go_ret
    exact ⟨ret_bool (by rw [HF.out]; simp [b]), rfl⟩
  · go_enter Try.func16, Try.ntmps16
    go_wp2
    go_ret
    exact ⟨ret_bool (by rw [HF.out]; simp [b]), rfl⟩

theorem rdelim_any (s : ByteArray) (w : World) (hs : s.size ≤ 1000) :
    Calls Try.prog 18 #[.string s] w fun e w' => e = .returned (.bool (hasO 0 1 ko s)) ∧ w = w' := by
  have HF := Lib.hid (show hasO 0 1 ko s = (decide (0 ≤ s.size) && decide (s.size ≤ 1) && allO ko s) from rfl)
  by_cases b : s.size ≤ 1
  · go_enter Try.func18, Try.ntmps18
    go_wp2_with fail
    refine (rkeys_any _ _ hs).mono ?_
    rintro e w1 ⟨rfl, rfl⟩
    go_wp2
    go_ret
    exact ⟨ret_bool (by rw [HF.out]; simp [b]), rfl⟩
  · go_enter Try.func18, Try.ntmps18
    go_wp2
    go_ret
    exact ⟨ret_bool (by rw [HF.out]; simp [b]), rfl⟩

/-- One text begins with another one. -/
def underO (k p : ByteArray) : Bool := decide (p.size ≤ k.size) && (k.extract 0 p.size).toList == p.toList

theorem under_any (k p : ByteArray) (w : World) (hk : k.size ≤ 1000) (hp : p.size ≤ 1000) :
    Calls Try.prog 19 #[.string k, .string p] w fun e w' => e = .returned (.bool (underO k p)) ∧ w = w' := by
  have HF := Lib.hid (show underO k p = (decide (p.size ≤ k.size) && (k.extract 0 p.size).toList == p.toList) from rfl)
  by_cases b : p.size ≤ k.size
  · go_enter Try.func19, Try.ntmps19
    go_wp2
    go_ret
    exact ⟨ret_bool (by rw [HF.out]; simp [b]), rfl⟩
  · go_enter Try.func19, Try.ntmps19
    go_wp2
    go_ret
    exact ⟨ret_bool (by rw [HF.out]; simp [b]), rfl⟩

theorem runder_any (k p : ByteArray) (w : World) (hk : k.size ≤ 1000) (hp : p.size ≤ 1000) :
    Calls Try.prog 20 #[.string k, .string p] w fun e w' => e = .returned (.bool (underO k p)) ∧ w = w' := by
  have HF := Lib.hid (show underO k p = (decide (p.size ≤ k.size) && (k.extract 0 p.size).toList == p.toList) from rfl)
  by_cases b : p.size ≤ k.size
  · go_enter Try.func20, Try.ntmps20
    go_wp2
    go_ret
    exact ⟨ret_bool (by rw [HF.out]; simp [b]), rfl⟩
  · go_enter Try.func20, Try.ntmps20
    go_wp2
    go_ret
    exact ⟨ret_bool (by rw [HF.out]; simp [b]), rfl⟩

/-- What the document's Bucket asks of the octet at place i. -/
def boAt (s : ByteArray) (i : Nat) (n : Int) : Bool := (decide (97 ≤ n) && decide (n ≤ 122)) || (decide (48 ≤ n) && decide (n ≤ 57)) || (n == 45 && !(i == 0 || i == s.size - 1))
def bkTo (s : ByteArray) (k : Nat) : Prop := ∀ i (h : i < s.size), i < k → boAt s i (s[i].toNat : Int) = true

theorem bkTo_succ {s : ByteArray} {k : Nat} (h : k < s.size) (a : bkTo s k) (b : boAt s k (s[k].toNat : Int) = true) : bkTo s (k + 1) := by
  intro i hi hik
  by_cases e : i = k
  · subst e; exact b
  · exact a i hi (by omega)
theorem allO_iff {p : Int → Bool} {s : ByteArray} : allO p s = true ↔ ∀ i (h : i < s.size), p (s[i].toNat : Int) = true := by
  unfold allO
  rw [List.all_eq_true]
  constructor
  · intro h i hi
    exact h s[i] (by rw [show s[i] = s.data.toList[i]'(by simpa using hi) from rfl]; exact List.getElem_mem _)
  · intro h c hc
    obtain ⟨i, hi, rfl⟩ := List.getElem_of_mem hc
    exact h i (by simpa using hi)
theorem bucketO_iff {s : ByteArray} (h3 : 3 ≤ s.size) (h20 : s.size ≤ 20) : bucketO s = true ↔ ∀ i (h : i < s.size), boAt s i (s[i].toNat : Int) = true := by
  unfold bucketO hasO
  rw [head_at s (by omega), last_at s (by omega)]
  simp only [Bool.and_eq_true, allO_iff, bne_iff_ne, decide_eq_true_eq, ne_eq]
  constructor
  · rintro ⟨⟨⟨_, h⟩, e0⟩, e1⟩ i hi
    have hb := h i hi
    unfold bo at hb
    unfold boAt
    simp only [Bool.or_eq_true, Bool.and_eq_true, decide_eq_true_eq, beq_iff_eq, Bool.not_eq_true'] at hb ⊢
    rcases hb with (hb | hb) | hb
    · exact .inl (.inl hb)
    · exact .inl (.inr hb)
    · refine .inr ⟨hb, ?_⟩
      simp only [Bool.or_eq_false_iff, beq_eq_false_iff_ne, ne_eq]
      refine ⟨?_, ?_⟩
      · rintro rfl; exact e0 hb
      · rintro rfl; exact e1 hb
  · intro h
    refine ⟨⟨⟨⟨by omega, by omega⟩, ?_⟩, ?_⟩, ?_⟩
    · intro i hi
      have hb := h i hi
      unfold boAt at hb
      unfold bo
      simp only [Bool.or_eq_true, Bool.and_eq_true, decide_eq_true_eq, beq_iff_eq, Bool.not_eq_true'] at hb ⊢
      rcases hb with hb | hb
      · exact .inl hb
      · exact .inr hb.1
    · intro e
      have hb := h 0 (by omega)
      unfold boAt at hb
      simp [e] at hb
    · intro e
      have hb := h (s.size - 1) (by omega)
      unfold boAt at hb
      simp [e] at hb
theorem bkTo_end {s : ByteArray} (h3 : 3 ≤ s.size) (h20 : s.size ≤ 20) (h : bkTo s s.size) : bucketO s = true :=
  (bucketO_iff h3 h20).2 fun i hi => h i hi hi
theorem bkTo_not {s : ByteArray} (h3 : 3 ≤ s.size) (h20 : s.size ≤ 20) {i : Nat} (h : i < s.size) (b : boAt s i (s[i].toNat : Int) = false) : bucketO s = false := by
  cases e : bucketO s with
  | false => rfl
  | true => have := (bucketO_iff h3 h20).1 e i h; rw [b] at this; cases this

set_option maxHeartbeats 4000000 in
theorem rbucket_any (s : ByteArray) (w : World) (hs : s.size ≤ 1000) :
    Calls Try.prog 12 #[.string s] w fun e w' => e = .returned (.bool (bucketO s)) ∧ w = w' := by
  have hz : bucketO s = true → 3 ≤ s.size ∧ s.size ≤ 20 := fun h => by
    unfold bucketO at h; simp only [Bool.and_eq_true] at h; exact hasO_size h.1.1
  by_cases a : 3 ≤ s.size
  · by_cases b : s.size ≤ 20
    · clear hz
      go_enter Try.func12, Try.ntmps12
      go_wp2_with fail
      go_loop [3] (fun i => ∃ k : Nat, k ≤ s.size ∧ i = .int .i64 k ∧ bkTo s k) (fun i => s.size - (intOf i).toNat)
      case atStart => exact ⟨0, Nat.zero_le _, rfl, fun _ _ h => by omega⟩
      case round =>
        obtain ⟨k, hk, rfl, ho⟩ := hrel
        by_cases hlt : k < s.size
        · have hb : s[k].toNat < 256 := s[k].toNat_lt
          have hd : k ≤ 0 ∨ (0 < k ∧ k + 1 < s.size) ∨ (0 < k ∧ s.size ≤ k + 1) := by omega
          have hc : (97 ≤ (s[k].toNat : Int) ∧ (s[k].toNat : Int) ≤ 122) ∨ (48 ≤ (s[k].toNat : Int) ∧ (s[k].toNat : Int) ≤ 57) ∨ (45 ≤ (s[k].toNat : Int) ∧ (s[k].toNat : Int) ≤ 45)
            ∨ (s[k].toNat : Int) < 45 ∨ (45 < (s[k].toNat : Int) ∧ (s[k].toNat : Int) < 48) ∨ (57 < (s[k].toNat : Int) ∧ (s[k].toNat : Int) < 97) ∨ 122 < (s[k].toNat : Int) := by omega
          have hg : boAt s k (s[k].toNat : Int) = true → bkTo s (k + 1) := bkTo_succ hlt ho
          have hn : boAt s k (s[k].toNat : Int) = false → bucketO s = false := bkTo_not a b hlt
          have HG := Lib.hid hg
          have HN := Lib.hid hn
          have HD := Lib.hid hd
          clear hg hn
          rcases hd with d | ⟨d, d'⟩ | ⟨d, d'⟩
          · obtain rfl : k = 0 := by omega
            clear d HD
            rcases hc with ⟨c, c'⟩ | ⟨c, c'⟩ | ⟨c, c'⟩ | c | ⟨c, c'⟩ | ⟨c, c'⟩ | c
            all_goals
              go_wp2
            all_goals
              first
                | (exfalso; rename_i h; simp at h; omega)
                | (go_round
                   case rel => exact ⟨1, by omega, rfl, HG.out (by unfold boAt; simp; omega)⟩
                   case measure => simp [intOf]; omega)
                | (go_ret; exact ⟨ret_bool (HN.out (by unfold boAt; simp; omega)).symm, rfl⟩)
          · clear HD
            have b1 : ((k : Int) == 0) = false := by simp; omega
            have b2 : ((k : Int) == (s.size : Int) - 1) = false := by simp; omega
            rcases hc with ⟨c, c'⟩ | ⟨c, c'⟩ | ⟨c, c'⟩ | c | ⟨c, c'⟩ | ⟨c, c'⟩ | c
            all_goals
              go_wp2
            all_goals
              first
                | (exfalso; rename_i h; simp at h; omega)
                | (go_round
                   case rel => exact ⟨k + 1, by omega, by go_num, HG.out (by unfold boAt; simp; omega)⟩
                   case measure => simp [intOf]; omega)
                | (go_ret; exact ⟨ret_bool (HN.out (by unfold boAt; simp; omega)).symm, rfl⟩)
          · clear HD
            have b1 : ((k : Int) == 0) = false := by simp; omega
            have b2 : ((k : Int) == (s.size : Int) - 1) = true := by simp; omega
            rcases hc with ⟨c, c'⟩ | ⟨c, c'⟩ | ⟨c, c'⟩ | c | ⟨c, c'⟩ | ⟨c, c'⟩ | c
            all_goals
              go_wp2
            all_goals
              first
                | (exfalso; rename_i h; simp at h; omega)
                | (go_round
                   case rel => exact ⟨k + 1, by omega, by go_num, HG.out (by unfold boAt; simp; omega)⟩
                   case measure => simp [intOf]; omega)
                | (go_ret; exact ⟨ret_bool (HN.out (by unfold boAt; simp; omega)).symm, rfl⟩)
        · obtain rfl : k = s.size := by omega
          go_wp2
          go_ret
          exact ⟨ret_bool (bkTo_end a b ho).symm, rfl⟩
    · have hn : bucketO s = false := by cases h : bucketO s with
        | false => rfl
        | true => have := hz h; omega
      have HN := Lib.hid hn
      clear hn hz
      go_enter Try.func12, Try.ntmps12
      go_wp2
      go_ret
      exact ⟨ret_bool (by rw [HN.out]), rfl⟩
  · have hn : bucketO s = false := by cases h : bucketO s with
      | false => rfl
      | true => have := hz h; omega
    have HN := Lib.hid hn
    clear hn hz
    go_enter Try.func12, Try.ntmps12
    go_wp2
    go_ret
    exact ⟨ret_bool (by rw [HN.out]), rfl⟩
end Go.Proofs.Ytdjmiiibhcnokaa
