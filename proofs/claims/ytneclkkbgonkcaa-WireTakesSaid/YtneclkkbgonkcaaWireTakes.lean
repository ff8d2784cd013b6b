/-
  Proved: whatever text WireTakes is called with, it returns true and leaves what it was given as it was. No condition.
-/
import Derived.Test.YtneclkkbgonkcaaWAwake
import Derived.Test.YtneclkkbgonkcaaCoreOpen
namespace Go.Proofs.Ytneclkkbgonkcaa.wireTakes
open Go.ChangeShapes Go.WideShapes Go.ChangeAt Go.RowKit
open Go.ChangeMaps (open_string shut_string)
set_option linter.unusedVariables false

theorem tt_bad {s x b : ByteArray} {f : Nat} (h : tt s = (x, b, f)) (hf : ¬ f = 0) : tt s = (⟨#[]⟩, ⟨#[]⟩, f) ∧ ttn s = 0 := by
  have hn : ttn s = 0 := by rw [ttn, h]; exact if_neg hf
  refine ⟨?_, hn⟩
  unfold tt at h ⊢
  split
  · rename_i q; rw [if_pos q] at h; simp at h; simp [h]
  · rename_i q; rw [if_neg q] at h
    split
    · rename_i q; rw [if_pos q] at h; simp at h; simp [h]
    · rename_i q; rw [if_neg q] at h
      split
      · rename_i q; rw [if_pos q] at h; simp at h; simp [h]
      · rename_i q; rw [if_neg q] at h; simp at h; exact absurd h.2.2.symm hf
theorem tl_bad {k : Nat} {s r : ByteArray} {l : List ByteArray} {f : Nat} (h : tl k s = (l, r, f)) (hf : ¬ f = 0) : tl k s = ([], ⟨#[]⟩, f) := by
  have := ahead_nil k s
  rw [h, ahead, if_neg hf] at this
  rw [h, ← this]
theorem tls_bad {s r : ByteArray} {l : List ByteArray} {f : Nat} (h : tls s = (l, r, f)) (hf : ¬ f = 0) : tls s = ([], ⟨#[]⟩, f) := by
  unfold tls at h ⊢
  split
  · rename_i q; rw [if_pos q] at h; exact tl_bad h hf
  · rename_i q; rw [if_neg q] at h; simp at h; simp [h]
theorem tl_len (k : Nat) (s : ByteArray) : (tl k s).1.length ≤ k := by
  induction k generalizing s with
  | zero => simp [tl]
  | succ k ih =>
    unfold tl
    split
    · split
      · simp; exact ih _
      · simp
    · simp
theorem tls_len (s : ByteArray) : (tls s).1.length ≤ 4000 := by
  unfold tls
  split
  · exact Nat.le_trans (tl_len _ _) (tc_size s).2
  · simp
theorem cut_end (s : ByteArray) : (s.extract s.size s.size).size = 0 := by rw [size_cut _ (Nat.le_refl _)]; omega
theorem nil_test : (⟨#[]⟩ : ByteArray).toList = [] := by kernel_rfl

set_option maxHeartbeats 4000000 in
set_option maxRecDepth 100000 in
theorem caseAAA (s0 : ByteArray) (hs0 : s0.size ≤ maxLen) (s : ByteArray) (HF : Hid (few s0 = s)) (hs : s.size ≤ 4100) (w : World) (T1 : Hid (tn s = (0, ⟨#[]⟩, 3))) {f : Nat} (hf : 0 < f) (T2 : Hid (tt s = (⟨#[]⟩, ⟨#[]⟩, f) ∧ ttn s = 0)) {g : Nat} (hg : 0 < g) (T3 : Hid (tls s = ([], ⟨#[]⟩, g) ∧ whl s = ([], g))) :
    Calls Try.prog 4 #[.string s0] w fun e w' => e = .returned (.bool true) ∧ Q w w' := by
  have hS : s.size ≤ 1000000000 := by omega
  have C0 := Lib.hid fun w => few_any s0 w hs0
  rw [HF.out] at C0
  have C1 := Lib.hid fun w => takeNum_any s w hS T1.out
  have C2 := Lib.hid fun w => rtakeNum_any s w hS
  rw [T1.out] at C2
  have C3 := Lib.hid fun w => takeText_any s w hS T2.out.1
  have C4 := Lib.hid fun w => rtakeText_any s w hS
  rw [T2.out.1, T2.out.2] at C4
  have C5 := Lib.hid fun w => takeList_any s w hS
  rw [T3.out.1] at C5
  have C6 := Lib.hid fun w => rtakeList_any s w hS
  rw [T3.out.1] at C6
  have C7 := Lib.hid fun w => whole_any s w hS
  rw [T3.out.2] at C7
  have n0 := nil_test
  have hf1 : ((f : Int) == 0) = false := by simp; omega
  have hf2 : ¬ f = 0 := by omega
  have hg1 : ((g : Int) == 0) = false := by simp; omega
  have hg2 : ¬ g = 0 := by omega
  go_enter Try.func4, Try.ntmps4
  go_wp2_with fail
  refine (C0.out _).mono ?_
  rintro e x0 ⟨rfl, rfl⟩
  go_wp2_with fail
  refine (C1.out _).mono ?_
  rintro e x1 ⟨rfl, q1⟩
  go_wp2_with fail
  refine (C2.out _).mono ?_
  rintro e x2 ⟨rfl, rfl⟩
  go_wp2_with fail
  refine (C3.out _).mono ?_
  rintro e x3 ⟨rfl, q3⟩
  go_wp2_with fail
  refine (C4.out _).mono ?_
  rintro e x4 ⟨rfl, q4⟩
  go_wp2_with fail
  refine (C5.out _).mono ?_
  rintro e x5 ⟨A1, n1, c1, rfl, t1, q5⟩
  go_wp2_with fail
  refine (C6.out _).mono ?_
  rintro e x6 ⟨A2, n2, c2, at_, rfl, t2, q6, hat, hat2⟩
  obtain rfl : at_ = 0 := hat2 (by simp; omega)
  clear hat hat2
  have t3 := t1.on q6
  clear t1
  go_wp2_with fail
  refine (same_any [] [] _ _ _ (by simp) (by simp) t3 t2).mono ?_
  rintro e x7 ⟨rfl, q7⟩
  have t4 := t2.on q7
  clear t3 t2
  go_wp2_with fail
  refine (C7.out _).mono ?_
  rintro e x8 ⟨A3, n3, c3, rfl, t5, q8⟩
  have t6 := t4.on q8
  clear t4
  go_wp2_with fail
  refine (same_any [] [] _ _ _ (by simp) (by simp) t5 t6).mono ?_
  rintro e x9 ⟨rfl, q9⟩
  go_wp2_with fail
  refine (awake_any _).mono ?_
  rintro e x10 ⟨rfl, q10⟩
  go_wp2
  go_ret
  exact ⟨rfl, ((q1.trans (q3.trans (q4.trans (q5.trans (q6.trans (q7.trans q8)))))).trans q9).trans q10⟩

set_option maxHeartbeats 4000000 in
set_option maxRecDepth 100000 in
theorem caseAAB (s0 : ByteArray) (hs0 : s0.size ≤ maxLen) (s : ByteArray) (HF : Hid (few s0 = s)) (hs : s.size ≤ 4100) (w : World) (T1 : Hid (tn s = (0, ⟨#[]⟩, 3))) {f : Nat} (hf : 0 < f) (T2 : Hid (tt s = (⟨#[]⟩, ⟨#[]⟩, f) ∧ ttn s = 0)) {l : List ByteArray} {r : ByteArray} (hr : r.size = 0) (T3 : Hid (tls s = (l, r, 0) ∧ whl s = (l, 0) ∧ l.length ≤ 4000)) :
    Calls Try.prog 4 #[.string s0] w fun e w' => e = .returned (.bool true) ∧ Q w w' := by
  have hS : s.size ≤ 1000000000 := by omega
  have C0 := Lib.hid fun w => few_any s0 w hs0
  rw [HF.out] at C0
  have C1 := Lib.hid fun w => takeNum_any s w hS T1.out
  have C2 := Lib.hid fun w => rtakeNum_any s w hS
  rw [T1.out] at C2
  have C3 := Lib.hid fun w => takeText_any s w hS T2.out.1
  have C4 := Lib.hid fun w => rtakeText_any s w hS
  rw [T2.out.1, T2.out.2] at C4
  have C5 := Lib.hid fun w => takeList_any s w hS
  rw [T3.out.1] at C5
  have C6 := Lib.hid fun w => rtakeList_any s w hS
  rw [T3.out.1] at C6
  have C7 := Lib.hid fun w => whole_any s w hS
  rw [T3.out.2.1] at C7
  have n0 := nil_test
  have hf1 : ((f : Int) == 0) = false := by simp; omega
  have hf2 : ¬ f = 0 := by omega
  have hn1 := nil_of hr
  have HR := Lib.hid hr
  clear hr
  go_enter Try.func4, Try.ntmps4
  go_wp2_with fail
  refine (C0.out _).mono ?_
  rintro e x0 ⟨rfl, rfl⟩
  go_wp2_with fail
  refine (C1.out _).mono ?_
  rintro e x1 ⟨rfl, q1⟩
  go_wp2_with fail
  refine (C2.out _).mono ?_
  rintro e x2 ⟨rfl, rfl⟩
  go_wp2_with fail
  refine (C3.out _).mono ?_
  rintro e x3 ⟨rfl, q3⟩
  go_wp2_with fail
  refine (C4.out _).mono ?_
  rintro e x4 ⟨rfl, q4⟩
  go_wp2_with fail
  refine (C5.out _).mono ?_
  rintro e x5 ⟨A1, n1, c1, rfl, t1, q5⟩
  go_wp2_with fail
  refine (C6.out _).mono ?_
  rintro e x6 ⟨A2, n2, c2, at_, rfl, t2, q6, hat, hat2⟩
  obtain ⟨hat3, hat4⟩ : at_ ≤ s.size ∧ r = s.extract at_ s.size := hat rfl
  clear hat hat2
  obtain rfl : at_ = s.size := by
    have := HR.out
    rw [hat4, size_cut _ (Nat.le_refl _)] at this; omega
  have hat7 : (r.toList == (s.extract s.size s.size).toList) = true := by rw [← hat4]; simp
  have H4 := Lib.hid hat4
  clear hat4
  have t3 := t1.on q6
  clear t1
  go_wp2_with fail
  refine (same_any l l _ _ _ (by have := T3.out.2.2; omega) (by have := T3.out.2.2; omega) t3 t2).mono ?_
  rintro e x7 ⟨rfl, q7⟩
  have t4 := t2.on q7
  clear t3 t2
  go_wp2_with fail
  refine (C7.out _).mono ?_
  rintro e x8 ⟨A3, n3, c3, rfl, t5, q8⟩
  have t6 := t4.on q8
  clear t4
  go_wp2_with fail
  refine (same_any l l _ _ _ (by have := T3.out.2.2; omega) (by have := T3.out.2.2; omega) t5 t6).mono ?_
  rintro e x9 ⟨rfl, q9⟩
  go_wp2_with fail
  refine (awake_any _).mono ?_
  rintro e x10 ⟨rfl, q10⟩
  go_wp2
  go_ret
  exact ⟨rfl, ((q1.trans (q3.trans (q4.trans (q5.trans (q6.trans (q7.trans q8)))))).trans q9).trans q10⟩

set_option maxHeartbeats 4000000 in
set_option maxRecDepth 100000 in
theorem caseAAC (s0 : ByteArray) (hs0 : s0.size ≤ maxLen) (s : ByteArray) (HF : Hid (few s0 = s)) (hs : s.size ≤ 4100) (w : World) (T1 : Hid (tn s = (0, ⟨#[]⟩, 3))) {f : Nat} (hf : 0 < f) (T2 : Hid (tt s = (⟨#[]⟩, ⟨#[]⟩, f) ∧ ttn s = 0)) {l : List ByteArray} {r : ByteArray} (hr : ¬ r.size = 0) (T3 : Hid (tls s = (l, r, 0) ∧ whl s = ([], 2) ∧ l.length ≤ 4000)) :
    Calls Try.prog 4 #[.string s0] w fun e w' => e = .returned (.bool true) ∧ Q w w' := by
  have hS : s.size ≤ 1000000000 := by omega
  have C0 := Lib.hid fun w => few_any s0 w hs0
  rw [HF.out] at C0
  have C1 := Lib.hid fun w => takeNum_any s w hS T1.out
  have C2 := Lib.hid fun w => rtakeNum_any s w hS
  rw [T1.out] at C2
  have C3 := Lib.hid fun w => takeText_any s w hS T2.out.1
  have C4 := Lib.hid fun w => rtakeText_any s w hS
  rw [T2.out.1, T2.out.2] at C4
  have C5 := Lib.hid fun w => takeList_any s w hS
  rw [T3.out.1] at C5
  have C6 := Lib.hid fun w => rtakeList_any s w hS
  rw [T3.out.1] at C6
  have C7 := Lib.hid fun w => whole_any s w hS
  rw [T3.out.2.1] at C7
  have n0 := nil_test
  have hf1 : ((f : Int) == 0) = false := by simp; omega
  have hf2 : ¬ f = 0 := by omega
  have hn1 := not_nil hr
  have hn2 := not_empty hr
  have HR := Lib.hid hr
  clear hr
  go_enter Try.func4, Try.ntmps4
  go_wp2_with fail
  refine (C0.out _).mono ?_
  rintro e x0 ⟨rfl, rfl⟩
  go_wp2_with fail
  refine (C1.out _).mono ?_
  rintro e x1 ⟨rfl, q1⟩
  go_wp2_with fail
  refine (C2.out _).mono ?_
  rintro e x2 ⟨rfl, rfl⟩
  go_wp2_with fail
  refine (C3.out _).mono ?_
  rintro e x3 ⟨rfl, q3⟩
  go_wp2_with fail
  refine (C4.out _).mono ?_
  rintro e x4 ⟨rfl, q4⟩
  go_wp2_with fail
  refine (C5.out _).mono ?_
  rintro e x5 ⟨A1, n1, c1, rfl, t1, q5⟩
  go_wp2_with fail
  refine (C6.out _).mono ?_
  rintro e x6 ⟨A2, n2, c2, at_, rfl, t2, q6, hat, hat2⟩
  obtain ⟨hat3, hat4⟩ : at_ ≤ s.size ∧ r = s.extract at_ s.size := hat rfl
  clear hat hat2
  have hat5 : at_ < s.size := by
    have := HR.out
    rw [hat4, size_cut _ (Nat.le_refl _)] at this; omega
  have hat6 : ((at_ : Int) == (s.size : Int)) = false := by simp; omega
  have hat7 : (r.toList == (s.extract at_ s.size).toList) = true := by rw [← hat4]; simp
  have H4 := Lib.hid hat4
  clear hat4
  have t3 := t1.on q6
  clear t1
  go_wp2_with fail
  refine (same_any l l _ _ _ (by have := T3.out.2.2; omega) (by have := T3.out.2.2; omega) t3 t2).mono ?_
  rintro e x7 ⟨rfl, q7⟩
  have t4 := t2.on q7
  clear t3 t2
  go_wp2_with fail
  refine (C7.out _).mono ?_
  rintro e x8 ⟨A3, n3, c3, rfl, t5, q8⟩
  obtain rfl := t5.len
  clear t5
  go_wp2_with fail
  refine (awake_any _).mono ?_
  rintro e x9 ⟨rfl, q9⟩
  go_wp2
  go_ret
  exact ⟨rfl, (q1.trans (q3.trans (q4.trans (q5.trans (q6.trans (q7.trans q8)))))).trans q9⟩

set_option maxHeartbeats 4000000 in
set_option maxRecDepth 100000 in
theorem caseABA (s0 : ByteArray) (hs0 : s0.size ≤ maxLen) (s : ByteArray) (HF : Hid (few s0 = s)) (hs : s.size ≤ 4100) (w : World) (T1 : Hid (tn s = (0, ⟨#[]⟩, 3))) {x : ByteArray} {d : Nat} (hd : d ≤ s.size) (T2 : Hid (tt s = (x, s.extract d s.size, 0) ∧ ttn s = d)) {g : Nat} (hg : 0 < g) (T3 : Hid (tls s = ([], ⟨#[]⟩, g) ∧ whl s = ([], g))) :
    Calls Try.prog 4 #[.string s0] w fun e w' => e = .returned (.bool true) ∧ Q w w' := by
  have hS : s.size ≤ 1000000000 := by omega
  have C0 := Lib.hid fun w => few_any s0 w hs0
  rw [HF.out] at C0
  have C1 := Lib.hid fun w => takeNum_any s w hS T1.out
  have C2 := Lib.hid fun w => rtakeNum_any s w hS
  rw [T1.out] at C2
  have C3 := Lib.hid fun w => takeText_any s w hS T2.out.1
  have C4 := Lib.hid fun w => rtakeText_any s w hS
  rw [T2.out.1, T2.out.2] at C4
  have C5 := Lib.hid fun w => takeList_any s w hS
  rw [T3.out.1] at C5
  have C6 := Lib.hid fun w => rtakeList_any s w hS
  rw [T3.out.1] at C6
  have C7 := Lib.hid fun w => whole_any s w hS
  rw [T3.out.2] at C7
  have n0 := nil_test
  have hg1 : ((g : Int) == 0) = false := by simp; omega
  have hg2 : ¬ g = 0 := by omega
  go_enter Try.func4, Try.ntmps4
  go_wp2_with fail
  refine (C0.out _).mono ?_
  rintro e x0 ⟨rfl, rfl⟩
  go_wp2_with fail
  refine (C1.out _).mono ?_
  rintro e x1 ⟨rfl, q1⟩
  go_wp2_with fail
  refine (C2.out _).mono ?_
  rintro e x2 ⟨rfl, rfl⟩
  go_wp2_with fail
  refine (C3.out _).mono ?_
  rintro e x3 ⟨rfl, q3⟩
  go_wp2_with fail
  refine (C4.out _).mono ?_
  rintro e x4 ⟨rfl, q4⟩
  go_wp2_with fail
  refine (C5.out _).mono ?_
  rintro e x5 ⟨A1, n1, c1, rfl, t1, q5⟩
  go_wp2_with fail
  refine (C6.out _).mono ?_
  rintro e x6 ⟨A2, n2, c2, at_, rfl, t2, q6, hat, hat2⟩
  obtain rfl : at_ = 0 := hat2 (by simp; omega)
  clear hat hat2
  have t3 := t1.on q6
  clear t1
  go_wp2_with fail
  refine (same_any [] [] _ _ _ (by simp) (by simp) t3 t2).mono ?_
  rintro e x7 ⟨rfl, q7⟩
  have t4 := t2.on q7
  clear t3 t2
  go_wp2_with fail
  refine (C7.out _).mono ?_
  rintro e x8 ⟨A3, n3, c3, rfl, t5, q8⟩
  have t6 := t4.on q8
  clear t4
  go_wp2_with fail
  refine (same_any [] [] _ _ _ (by simp) (by simp) t5 t6).mono ?_
  rintro e x9 ⟨rfl, q9⟩
  go_wp2_with fail
  refine (awake_any _).mono ?_
  rintro e x10 ⟨rfl, q10⟩
  go_wp2
  go_ret
  exact ⟨rfl, ((q1.trans (q3.trans (q4.trans (q5.trans (q6.trans (q7.trans q8)))))).trans q9).trans q10⟩

set_option maxHeartbeats 4000000 in
set_option maxRecDepth 100000 in
theorem caseABB (s0 : ByteArray) (hs0 : s0.size ≤ maxLen) (s : ByteArray) (HF : Hid (few s0 = s)) (hs : s.size ≤ 4100) (w : World) (T1 : Hid (tn s = (0, ⟨#[]⟩, 3))) {x : ByteArray} {d : Nat} (hd : d ≤ s.size) (T2 : Hid (tt s = (x, s.extract d s.size, 0) ∧ ttn s = d)) {l : List ByteArray} {r : ByteArray} (hr : r.size = 0) (T3 : Hid (tls s = (l, r, 0) ∧ whl s = (l, 0) ∧ l.length ≤ 4000)) :
    Calls Try.prog 4 #[.string s0] w fun e w' => e = .returned (.bool true) ∧ Q w w' := by
  have hS : s.size ≤ 1000000000 := by omega
  have C0 := Lib.hid fun w => few_any s0 w hs0
  rw [HF.out] at C0
  have C1 := Lib.hid fun w => takeNum_any s w hS T1.out
  have C2 := Lib.hid fun w => rtakeNum_any s w hS
  rw [T1.out] at C2
  have C3 := Lib.hid fun w => takeText_any s w hS T2.out.1
  have C4 := Lib.hid fun w => rtakeText_any s w hS
  rw [T2.out.1, T2.out.2] at C4
  have C5 := Lib.hid fun w => takeList_any s w hS
  rw [T3.out.1] at C5
  have C6 := Lib.hid fun w => rtakeList_any s w hS
  rw [T3.out.1] at C6
  have C7 := Lib.hid fun w => whole_any s w hS
  rw [T3.out.2.1] at C7
  have n0 := nil_test
  have hn1 := nil_of hr
  have HR := Lib.hid hr
  clear hr
  go_enter Try.func4, Try.ntmps4
  go_wp2_with fail
  refine (C0.out _).mono ?_
  rintro e x0 ⟨rfl, rfl⟩
  go_wp2_with fail
  refine (C1.out _).mono ?_
  rintro e x1 ⟨rfl, q1⟩
  go_wp2_with fail
  refine (C2.out _).mono ?_
  rintro e x2 ⟨rfl, rfl⟩
  go_wp2_with fail
  refine (C3.out _).mono ?_
  rintro e x3 ⟨rfl, q3⟩
  go_wp2_with fail
  refine (C4.out _).mono ?_
  rintro e x4 ⟨rfl, q4⟩
  go_wp2_with fail
  refine (C5.out _).mono ?_
  rintro e x5 ⟨A1, n1, c1, rfl, t1, q5⟩
  go_wp2_with fail
  refine (C6.out _).mono ?_
  rintro e x6 ⟨A2, n2, c2, at_, rfl, t2, q6, hat, hat2⟩
  obtain ⟨hat3, hat4⟩ : at_ ≤ s.size ∧ r = s.extract at_ s.size := hat rfl
  clear hat hat2
  obtain rfl : at_ = s.size := by
    have := HR.out
    rw [hat4, size_cut _ (Nat.le_refl _)] at this; omega
  have hat7 : (r.toList == (s.extract s.size s.size).toList) = true := by rw [← hat4]; simp
  have H4 := Lib.hid hat4
  clear hat4
  have t3 := t1.on q6
  clear t1
  go_wp2_with fail
  refine (same_any l l _ _ _ (by have := T3.out.2.2; omega) (by have := T3.out.2.2; omega) t3 t2).mono ?_
  rintro e x7 ⟨rfl, q7⟩
  have t4 := t2.on q7
  clear t3 t2
  go_wp2_with fail
  refine (C7.out _).mono ?_
  rintro e x8 ⟨A3, n3, c3, rfl, t5, q8⟩
  have t6 := t4.on q8
  clear t4
  go_wp2_with fail
  refine (same_any l l _ _ _ (by have := T3.out.2.2; omega) (by have := T3.out.2.2; omega) t5 t6).mono ?_
  rintro e x9 ⟨rfl, q9⟩
  go_wp2_with fail
  refine (awake_any _).mono ?_
  rintro e x10 ⟨rfl, q10⟩
  go_wp2
  go_ret
  exact ⟨rfl, ((q1.trans (q3.trans (q4.trans (q5.trans (q6.trans (q7.trans q8)))))).trans q9).trans q10⟩

set_option maxHeartbeats 4000000 in
set_option maxRecDepth 100000 in
theorem caseABC (s0 : ByteArray) (hs0 : s0.size ≤ maxLen) (s : ByteArray) (HF : Hid (few s0 = s)) (hs : s.size ≤ 4100) (w : World) (T1 : Hid (tn s = (0, ⟨#[]⟩, 3))) {x : ByteArray} {d : Nat} (hd : d ≤ s.size) (T2 : Hid (tt s = (x, s.extract d s.size, 0) ∧ ttn s = d)) {l : List ByteArray} {r : ByteArray} (hr : ¬ r.size = 0) (T3 : Hid (tls s = (l, r, 0) ∧ whl s = ([], 2) ∧ l.length ≤ 4000)) :
    Calls Try.prog 4 #[.string s0] w fun e w' => e = .returned (.bool true) ∧ Q w w' := by
  have hS : s.size ≤ 1000000000 := by omega
  have C0 := Lib.hid fun w => few_any s0 w hs0
  rw [HF.out] at C0
  have C1 := Lib.hid fun w => takeNum_any s w hS T1.out
  have C2 := Lib.hid fun w => rtakeNum_any s w hS
  rw [T1.out] at C2
  have C3 := Lib.hid fun w => takeText_any s w hS T2.out.1
  have C4 := Lib.hid fun w => rtakeText_any s w hS
  rw [T2.out.1, T2.out.2] at C4
  have C5 := Lib.hid fun w => takeList_any s w hS
  rw [T3.out.1] at C5
  have C6 := Lib.hid fun w => rtakeList_any s w hS
  rw [T3.out.1] at C6
  have C7 := Lib.hid fun w => whole_any s w hS
  rw [T3.out.2.1] at C7
  have n0 := nil_test
  have hn1 := not_nil hr
  have hn2 := not_empty hr
  have HR := Lib.hid hr
  clear hr
  go_enter Try.func4, Try.ntmps4
  go_wp2_with fail
  refine (C0.out _).mono ?_
  rintro e x0 ⟨rfl, rfl⟩
  go_wp2_with fail
  refine (C1.out _).mono ?_
  rintro e x1 ⟨rfl, q1⟩
  go_wp2_with fail
  refine (C2.out _).mono ?_
  rintro e x2 ⟨rfl, rfl⟩
  go_wp2_with fail
  refine (C3.out _).mono ?_
  rintro e x3 ⟨rfl, q3⟩
  go_wp2_with fail
  refine (C4.out _).mono ?_
  rintro e x4 ⟨rfl, q4⟩
  go_wp2_with fail
  refine (C5.out _).mono ?_
  rintro e x5 ⟨A1, n1, c1, rfl, t1, q5⟩
  go_wp2_with fail
  refine (C6.out _).mono ?_
  rintro e x6 ⟨A2, n2, c2, at_, rfl, t2, q6, hat, hat2⟩
  obtain ⟨hat3, hat4⟩ : at_ ≤ s.size ∧ r = s.extract at_ s.size := hat rfl
  clear hat hat2
  have hat5 : at_ < s.size := by
    have := HR.out
    rw [hat4, size_cut _ (Nat.le_refl _)] at this; omega
  have hat6 : ((at_ : Int) == (s.size : Int)) = false := by simp; omega
  have hat7 : (r.toList == (s.extract at_ s.size).toList) = true := by rw [← hat4]; simp
  have H4 := Lib.hid hat4
  clear hat4
  have t3 := t1.on q6
  clear t1
  go_wp2_with fail
  refine (same_any l l _ _ _ (by have := T3.out.2.2; omega) (by have := T3.out.2.2; omega) t3 t2).mono ?_
  rintro e x7 ⟨rfl, q7⟩
  have t4 := t2.on q7
  clear t3 t2
  go_wp2_with fail
  refine (C7.out _).mono ?_
  rintro e x8 ⟨A3, n3, c3, rfl, t5, q8⟩
  obtain rfl := t5.len
  clear t5
  go_wp2_with fail
  refine (awake_any _).mono ?_
  rintro e x9 ⟨rfl, q9⟩
  go_wp2
  go_ret
  exact ⟨rfl, (q1.trans (q3.trans (q4.trans (q5.trans (q6.trans (q7.trans q8)))))).trans q9⟩

set_option maxHeartbeats 4000000 in
set_option maxRecDepth 100000 in
theorem caseBAA (s0 : ByteArray) (hs0 : s0.size ≤ maxLen) (s : ByteArray) (HF : Hid (few s0 = s)) (hs : s.size ≤ 4100) (w : World) {n : Nat} (h8 : 8 ≤ s.size) (T1 : Hid (tn s = (n, s.extract 8 s.size, 0))) {f : Nat} (hf : 0 < f) (T2 : Hid (tt s = (⟨#[]⟩, ⟨#[]⟩, f) ∧ ttn s = 0)) {g : Nat} (hg : 0 < g) (T3 : Hid (tls s = ([], ⟨#[]⟩, g) ∧ whl s = ([], g))) :
    Calls Try.prog 4 #[.string s0] w fun e w' => e = .returned (.bool true) ∧ Q w w' := by
  have hS : s.size ≤ 1000000000 := by omega
  have C0 := Lib.hid fun w => few_any s0 w hs0
  rw [HF.out] at C0
  have C1 := Lib.hid fun w => takeNum_any s w hS T1.out
  have C2 := Lib.hid fun w => rtakeNum_any s w hS
  rw [T1.out] at C2
  have C3 := Lib.hid fun w => takeText_any s w hS T2.out.1
  have C4 := Lib.hid fun w => rtakeText_any s w hS
  rw [T2.out.1, T2.out.2] at C4
  have C5 := Lib.hid fun w => takeList_any s w hS
  rw [T3.out.1] at C5
  have C6 := Lib.hid fun w => rtakeList_any s w hS
  rw [T3.out.1] at C6
  have C7 := Lib.hid fun w => whole_any s w hS
  rw [T3.out.2] at C7
  have n0 := nil_test
  have hf1 : ((f : Int) == 0) = false := by simp; omega
  have hf2 : ¬ f = 0 := by omega
  have hg1 : ((g : Int) == 0) = false := by simp; omega
  have hg2 : ¬ g = 0 := by omega
  go_enter Try.func4, Try.ntmps4
  go_wp2_with fail
  refine (C0.out _).mono ?_
  rintro e x0 ⟨rfl, rfl⟩
  go_wp2_with fail
  refine (C1.out _).mono ?_
  rintro e x1 ⟨rfl, q1⟩
  go_wp2_with fail
  refine (C2.out _).mono ?_
  rintro e x2 ⟨rfl, rfl⟩
  go_wp2_with fail
  refine (C3.out _).mono ?_
  rintro e x3 ⟨rfl, q3⟩
  go_wp2_with fail
  refine (C4.out _).mono ?_
  rintro e x4 ⟨rfl, q4⟩
  go_wp2_with fail
  refine (C5.out _).mono ?_
  rintro e x5 ⟨A1, n1, c1, rfl, t1, q5⟩
  go_wp2_with fail
  refine (C6.out _).mono ?_
  rintro e x6 ⟨A2, n2, c2, at_, rfl, t2, q6, hat, hat2⟩
  obtain rfl : at_ = 0 := hat2 (by simp; omega)
  clear hat hat2
  have t3 := t1.on q6
  clear t1
  go_wp2_with fail
  refine (same_any [] [] _ _ _ (by simp) (by simp) t3 t2).mono ?_
  rintro e x7 ⟨rfl, q7⟩
  have t4 := t2.on q7
  clear t3 t2
  go_wp2_with fail
  refine (C7.out _).mono ?_
  rintro e x8 ⟨A3, n3, c3, rfl, t5, q8⟩
  have t6 := t4.on q8
  clear t4
  go_wp2_with fail
  refine (same_any [] [] _ _ _ (by simp) (by simp) t5 t6).mono ?_
  rintro e x9 ⟨rfl, q9⟩
  go_wp2_with fail
  refine (awake_any _).mono ?_
  rintro e x10 ⟨rfl, q10⟩
  go_wp2
  go_ret
  exact ⟨rfl, ((q1.trans (q3.trans (q4.trans (q5.trans (q6.trans (q7.trans q8)))))).trans q9).trans q10⟩

set_option maxHeartbeats 4000000 in
set_option maxRecDepth 100000 in
theorem caseBAB (s0 : ByteArray) (hs0 : s0.size ≤ maxLen) (s : ByteArray) (HF : Hid (few s0 = s)) (hs : s.size ≤ 4100) (w : World) {n : Nat} (h8 : 8 ≤ s.size) (T1 : Hid (tn s = (n, s.extract 8 s.size, 0))) {f : Nat} (hf : 0 < f) (T2 : Hid (tt s = (⟨#[]⟩, ⟨#[]⟩, f) ∧ ttn s = 0)) {l : List ByteArray} {r : ByteArray} (hr : r.size = 0) (T3 : Hid (tls s = (l, r, 0) ∧ whl s = (l, 0) ∧ l.length ≤ 4000)) :
    Calls Try.prog 4 #[.string s0] w fun e w' => e = .returned (.bool true) ∧ Q w w' := by
  have hS : s.size ≤ 1000000000 := by omega
  have C0 := Lib.hid fun w => few_any s0 w hs0
  rw [HF.out] at C0
  have C1 := Lib.hid fun w => takeNum_any s w hS T1.out
  have C2 := Lib.hid fun w => rtakeNum_any s w hS
  rw [T1.out] at C2
  have C3 := Lib.hid fun w => takeText_any s w hS T2.out.1
  have C4 := Lib.hid fun w => rtakeText_any s w hS
  rw [T2.out.1, T2.out.2] at C4
  have C5 := Lib.hid fun w => takeList_any s w hS
  rw [T3.out.1] at C5
  have C6 := Lib.hid fun w => rtakeList_any s w hS
  rw [T3.out.1] at C6
  have C7 := Lib.hid fun w => whole_any s w hS
  rw [T3.out.2.1] at C7
  have n0 := nil_test
  have hf1 : ((f : Int) == 0) = false := by simp; omega
  have hf2 : ¬ f = 0 := by omega
  have hn1 := nil_of hr
  have HR := Lib.hid hr
  clear hr
  go_enter Try.func4, Try.ntmps4
  go_wp2_with fail
  refine (C0.out _).mono ?_
  rintro e x0 ⟨rfl, rfl⟩
  go_wp2_with fail
  refine (C1.out _).mono ?_
  rintro e x1 ⟨rfl, q1⟩
  go_wp2_with fail
  refine (C2.out _).mono ?_
  rintro e x2 ⟨rfl, rfl⟩
  go_wp2_with fail
  refine (C3.out _).mono ?_
  rintro e x3 ⟨rfl, q3⟩
  go_wp2_with fail
  refine (C4.out _).mono ?_
  rintro e x4 ⟨rfl, q4⟩
  go_wp2_with fail
  refine (C5.out _).mono ?_
  rintro e x5 ⟨A1, n1, c1, rfl, t1, q5⟩
  go_wp2_with fail
  refine (C6.out _).mono ?_
  rintro e x6 ⟨A2, n2, c2, at_, rfl, t2, q6, hat, hat2⟩
  obtain ⟨hat3, hat4⟩ : at_ ≤ s.size ∧ r = s.extract at_ s.size := hat rfl
  clear hat hat2
  obtain rfl : at_ = s.size := by
    have := HR.out
    rw [hat4, size_cut _ (Nat.le_refl _)] at this; omega
  have hat7 : (r.toList == (s.extract s.size s.size).toList) = true := by rw [← hat4]; simp
  have H4 := Lib.hid hat4
  clear hat4
  have t3 := t1.on q6
  clear t1
  go_wp2_with fail
  refine (same_any l l _ _ _ (by have := T3.out.2.2; omega) (by have := T3.out.2.2; omega) t3 t2).mono ?_
  rintro e x7 ⟨rfl, q7⟩
  have t4 := t2.on q7
  clear t3 t2
  go_wp2_with fail
  refine (C7.out _).mono ?_
  rintro e x8 ⟨A3, n3, c3, rfl, t5, q8⟩
  have t6 := t4.on q8
  clear t4
  go_wp2_with fail
  refine (same_any l l _ _ _ (by have := T3.out.2.2; omega) (by have := T3.out.2.2; omega) t5 t6).mono ?_
  rintro e x9 ⟨rfl, q9⟩
  go_wp2_with fail
  refine (awake_any _).mono ?_
  rintro e x10 ⟨rfl, q10⟩
  go_wp2
  go_ret
  exact ⟨rfl, ((q1.trans (q3.trans (q4.trans (q5.trans (q6.trans (q7.trans q8)))))).trans q9).trans q10⟩

set_option maxHeartbeats 4000000 in
set_option maxRecDepth 100000 in
theorem caseBAC (s0 : ByteArray) (hs0 : s0.size ≤ maxLen) (s : ByteArray) (HF : Hid (few s0 = s)) (hs : s.size ≤ 4100) (w : World) {n : Nat} (h8 : 8 ≤ s.size) (T1 : Hid (tn s = (n, s.extract 8 s.size, 0))) {f : Nat} (hf : 0 < f) (T2 : Hid (tt s = (⟨#[]⟩, ⟨#[]⟩, f) ∧ ttn s = 0)) {l : List ByteArray} {r : ByteArray} (hr : ¬ r.size = 0) (T3 : Hid (tls s = (l, r, 0) ∧ whl s = ([], 2) ∧ l.length ≤ 4000)) :
    Calls Try.prog 4 #[.string s0] w fun e w' => e = .returned (.bool true) ∧ Q w w' := by
  have hS : s.size ≤ 1000000000 := by omega
  have C0 := Lib.hid fun w => few_any s0 w hs0
  rw [HF.out] at C0
  have C1 := Lib.hid fun w => takeNum_any s w hS T1.out
  have C2 := Lib.hid fun w => rtakeNum_any s w hS
  rw [T1.out] at C2
  have C3 := Lib.hid fun w => takeText_any s w hS T2.out.1
  have C4 := Lib.hid fun w => rtakeText_any s w hS
  rw [T2.out.1, T2.out.2] at C4
  have C5 := Lib.hid fun w => takeList_any s w hS
  rw [T3.out.1] at C5
  have C6 := Lib.hid fun w => rtakeList_any s w hS
  rw [T3.out.1] at C6
  have C7 := Lib.hid fun w => whole_any s w hS
  rw [T3.out.2.1] at C7
  have n0 := nil_test
  have hf1 : ((f : Int) == 0) = false := by simp; omega
  have hf2 : ¬ f = 0 := by omega
  have hn1 := not_nil hr
  have hn2 := not_empty hr
  have HR := Lib.hid hr
  clear hr
  go_enter Try.func4, Try.ntmps4
  go_wp2_with fail
  refine (C0.out _).mono ?_
  rintro e x0 ⟨rfl, rfl⟩
  go_wp2_with fail
  refine (C1.out _).mono ?_
  rintro e x1 ⟨rfl, q1⟩
  go_wp2_with fail
  refine (C2.out _).mono ?_
  rintro e x2 ⟨rfl, rfl⟩
  go_wp2_with fail
  refine (C3.out _).mono ?_
  rintro e x3 ⟨rfl, q3⟩
  go_wp2_with fail
  refine (C4.out _).mono ?_
  rintro e x4 ⟨rfl, q4⟩
  go_wp2_with fail
  refine (C5.out _).mono ?_
  rintro e x5 ⟨A1, n1, c1, rfl, t1, q5⟩
  go_wp2_with fail
  refine (C6.out _).mono ?_
  rintro e x6 ⟨A2, n2, c2, at_, rfl, t2, q6, hat, hat2⟩
  obtain ⟨hat3, hat4⟩ : at_ ≤ s.size ∧ r = s.extract at_ s.size := hat rfl
  clear hat hat2
  have hat5 : at_ < s.size := by
    have := HR.out
    rw [hat4, size_cut _ (Nat.le_refl _)] at this; omega
  have hat6 : ((at_ : Int) == (s.size : Int)) = false := by simp; omega
  have hat7 : (r.toList == (s.extract at_ s.size).toList) = true := by rw [← hat4]; simp
  have H4 := Lib.hid hat4
  clear hat4
  have t3 := t1.on q6
  clear t1
  go_wp2_with fail
  refine (same_any l l _ _ _ (by have := T3.out.2.2; omega) (by have := T3.out.2.2; omega) t3 t2).mono ?_
  rintro e x7 ⟨rfl, q7⟩
  have t4 := t2.on q7
  clear t3 t2
  go_wp2_with fail
  refine (C7.out _).mono ?_
  rintro e x8 ⟨A3, n3, c3, rfl, t5, q8⟩
  obtain rfl := t5.len
  clear t5
  go_wp2_with fail
  refine (awake_any _).mono ?_
  rintro e x9 ⟨rfl, q9⟩
  go_wp2
  go_ret
  exact ⟨rfl, (q1.trans (q3.trans (q4.trans (q5.trans (q6.trans (q7.trans q8)))))).trans q9⟩

set_option maxHeartbeats 4000000 in
set_option maxRecDepth 100000 in
theorem caseBBA (s0 : ByteArray) (hs0 : s0.size ≤ maxLen) (s : ByteArray) (HF : Hid (few s0 = s)) (hs : s.size ≤ 4100) (w : World) {n : Nat} (h8 : 8 ≤ s.size) (T1 : Hid (tn s = (n, s.extract 8 s.size, 0))) {x : ByteArray} {d : Nat} (hd : d ≤ s.size) (T2 : Hid (tt s = (x, s.extract d s.size, 0) ∧ ttn s = d)) {g : Nat} (hg : 0 < g) (T3 : Hid (tls s = ([], ⟨#[]⟩, g) ∧ whl s = ([], g))) :
    Calls Try.prog 4 #[.string s0] w fun e w' => e = .returned (.bool true) ∧ Q w w' := by
  have hS : s.size ≤ 1000000000 := by omega
  have C0 := Lib.hid fun w => few_any s0 w hs0
  rw [HF.out] at C0
  have C1 := Lib.hid fun w => takeNum_any s w hS T1.out
  have C2 := Lib.hid fun w => rtakeNum_any s w hS
  rw [T1.out] at C2
  have C3 := Lib.hid fun w => takeText_any s w hS T2.out.1
  have C4 := Lib.hid fun w => rtakeText_any s w hS
  rw [T2.out.1, T2.out.2] at C4
  have C5 := Lib.hid fun w => takeList_any s w hS
  rw [T3.out.1] at C5
  have C6 := Lib.hid fun w => rtakeList_any s w hS
  rw [T3.out.1] at C6
  have C7 := Lib.hid fun w => whole_any s w hS
  rw [T3.out.2] at C7
  have n0 := nil_test
  have hg1 : ((g : Int) == 0) = false := by simp; omega
  have hg2 : ¬ g = 0 := by omega
  go_enter Try.func4, Try.ntmps4
  go_wp2_with fail
  refine (C0.out _).mono ?_
  rintro e x0 ⟨rfl, rfl⟩
  go_wp2_with fail
  refine (C1.out _).mono ?_
  rintro e x1 ⟨rfl, q1⟩
  go_wp2_with fail
  refine (C2.out _).mono ?_
  rintro e x2 ⟨rfl, rfl⟩
  go_wp2_with fail
  refine (C3.out _).mono ?_
  rintro e x3 ⟨rfl, q3⟩
  go_wp2_with fail
  refine (C4.out _).mono ?_
  rintro e x4 ⟨rfl, q4⟩
  go_wp2_with fail
  refine (C5.out _).mono ?_
  rintro e x5 ⟨A1, n1, c1, rfl, t1, q5⟩
  go_wp2_with fail
  refine (C6.out _).mono ?_
  rintro e x6 ⟨A2, n2, c2, at_, rfl, t2, q6, hat, hat2⟩
  obtain rfl : at_ = 0 := hat2 (by simp; omega)
  clear hat hat2
  have t3 := t1.on q6
  clear t1
  go_wp2_with fail
  refine (same_any [] [] _ _ _ (by simp) (by simp) t3 t2).mono ?_
  rintro e x7 ⟨rfl, q7⟩
  have t4 := t2.on q7
  clear t3 t2
  go_wp2_with fail
  refine (C7.out _).mono ?_
  rintro e x8 ⟨A3, n3, c3, rfl, t5, q8⟩
  have t6 := t4.on q8
  clear t4
  go_wp2_with fail
  refine (same_any [] [] _ _ _ (by simp) (by simp) t5 t6).mono ?_
  rintro e x9 ⟨rfl, q9⟩
  go_wp2_with fail
  refine (awake_any _).mono ?_
  rintro e x10 ⟨rfl, q10⟩
  go_wp2
  go_ret
  exact ⟨rfl, ((q1.trans (q3.trans (q4.trans (q5.trans (q6.trans (q7.trans q8)))))).trans q9).trans q10⟩

set_option maxHeartbeats 4000000 in
set_option maxRecDepth 100000 in
theorem caseBBB (s0 : ByteArray) (hs0 : s0.size ≤ maxLen) (s : ByteArray) (HF : Hid (few s0 = s)) (hs : s.size ≤ 4100) (w : World) {n : Nat} (h8 : 8 ≤ s.size) (T1 : Hid (tn s = (n, s.extract 8 s.size, 0))) {x : ByteArray} {d : Nat} (hd : d ≤ s.size) (T2 : Hid (tt s = (x, s.extract d s.size, 0) ∧ ttn s = d)) {l : List ByteArray} {r : ByteArray} (hr : r.size = 0) (T3 : Hid (tls s = (l, r, 0) ∧ whl s = (l, 0) ∧ l.length ≤ 4000)) :
    Calls Try.prog 4 #[.string s0] w fun e w' => e = .returned (.bool true) ∧ Q w w' := by
  have hS : s.size ≤ 1000000000 := by omega
  have C0 := Lib.hid fun w => few_any s0 w hs0
  rw [HF.out] at C0
  have C1 := Lib.hid fun w => takeNum_any s w hS T1.out
  have C2 := Lib.hid fun w => rtakeNum_any s w hS
  rw [T1.out] at C2
  have C3 := Lib.hid fun w => takeText_any s w hS T2.out.1
  have C4 := Lib.hid fun w => rtakeText_any s w hS
  rw [T2.out.1, T2.out.2] at C4
  have C5 := Lib.hid fun w => takeList_any s w hS
  rw [T3.out.1] at C5
  have C6 := Lib.hid fun w => rtakeList_any s w hS
  rw [T3.out.1] at C6
  have C7 := Lib.hid fun w => whole_any s w hS
  rw [T3.out.2.1] at C7
  have n0 := nil_test
  have hn1 := nil_of hr
  have HR := Lib.hid hr
  clear hr
  go_enter Try.func4, Try.ntmps4
  go_wp2_with fail
  refine (C0.out _).mono ?_
  rintro e x0 ⟨rfl, rfl⟩
  go_wp2_with fail
  refine (C1.out _).mono ?_
  rintro e x1 ⟨rfl, q1⟩
  go_wp2_with fail
  refine (C2.out _).mono ?_
  rintro e x2 ⟨rfl, rfl⟩
  go_wp2_with fail
  refine (C3.out _).mono ?_
  rintro e x3 ⟨rfl, q3⟩
  go_wp2_with fail
  refine (C4.out _).mono ?_
  rintro e x4 ⟨rfl, q4⟩
  go_wp2_with fail
  refine (C5.out _).mono ?_
  rintro e x5 ⟨A1, n1, c1, rfl, t1, q5⟩
  go_wp2_with fail
  refine (C6.out _).mono ?_
  rintro e x6 ⟨A2, n2, c2, at_, rfl, t2, q6, hat, hat2⟩
  obtain ⟨hat3, hat4⟩ : at_ ≤ s.size ∧ r = s.extract at_ s.size := hat rfl
  clear hat hat2
  obtain rfl : at_ = s.size := by
    have := HR.out
    rw [hat4, size_cut _ (Nat.le_refl _)] at this; omega
  have hat7 : (r.toList == (s.extract s.size s.size).toList) = true := by rw [← hat4]; simp
  have H4 := Lib.hid hat4
  clear hat4
  have t3 := t1.on q6
  clear t1
  go_wp2_with fail
  refine (same_any l l _ _ _ (by have := T3.out.2.2; omega) (by have := T3.out.2.2; omega) t3 t2).mono ?_
  rintro e x7 ⟨rfl, q7⟩
  have t4 := t2.on q7
  clear t3 t2
  go_wp2_with fail
  refine (C7.out _).mono ?_
  rintro e x8 ⟨A3, n3, c3, rfl, t5, q8⟩
  have t6 := t4.on q8
  clear t4
  go_wp2_with fail
  refine (same_any l l _ _ _ (by have := T3.out.2.2; omega) (by have := T3.out.2.2; omega) t5 t6).mono ?_
  rintro e x9 ⟨rfl, q9⟩
  go_wp2_with fail
  refine (awake_any _).mono ?_
  rintro e x10 ⟨rfl, q10⟩
  go_wp2
  go_ret
  exact ⟨rfl, ((q1.trans (q3.trans (q4.trans (q5.trans (q6.trans (q7.trans q8)))))).trans q9).trans q10⟩

set_option maxHeartbeats 4000000 in
set_option maxRecDepth 100000 in
theorem caseBBC (s0 : ByteArray) (hs0 : s0.size ≤ maxLen) (s : ByteArray) (HF : Hid (few s0 = s)) (hs : s.size ≤ 4100) (w : World) {n : Nat} (h8 : 8 ≤ s.size) (T1 : Hid (tn s = (n, s.extract 8 s.size, 0))) {x : ByteArray} {d : Nat} (hd : d ≤ s.size) (T2 : Hid (tt s = (x, s.extract d s.size, 0) ∧ ttn s = d)) {l : List ByteArray} {r : ByteArray} (hr : ¬ r.size = 0) (T3 : Hid (tls s = (l, r, 0) ∧ whl s = ([], 2) ∧ l.length ≤ 4000)) :
    Calls Try.prog 4 #[.string s0] w fun e w' => e = .returned (.bool true) ∧ Q w w' := by
  have hS : s.size ≤ 1000000000 := by omega
  have C0 := Lib.hid fun w => few_any s0 w hs0
  rw [HF.out] at C0
  have C1 := Lib.hid fun w => takeNum_any s w hS T1.out
  have C2 := Lib.hid fun w => rtakeNum_any s w hS
  rw [T1.out] at C2
  have C3 := Lib.hid fun w => takeText_any s w hS T2.out.1
  have C4 := Lib.hid fun w => rtakeText_any s w hS
  rw [T2.out.1, T2.out.2] at C4
  have C5 := Lib.hid fun w => takeList_any s w hS
  rw [T3.out.1] at C5
  have C6 := Lib.hid fun w => rtakeList_any s w hS
  rw [T3.out.1] at C6
  have C7 := Lib.hid fun w => whole_any s w hS
  rw [T3.out.2.1] at C7
  have n0 := nil_test
  have hn1 := not_nil hr
  have hn2 := not_empty hr
  have HR := Lib.hid hr
  clear hr
  go_enter Try.func4, Try.ntmps4
  go_wp2_with fail
  refine (C0.out _).mono ?_
  rintro e x0 ⟨rfl, rfl⟩
  go_wp2_with fail
  refine (C1.out _).mono ?_
  rintro e x1 ⟨rfl, q1⟩
  go_wp2_with fail
  refine (C2.out _).mono ?_
  rintro e x2 ⟨rfl, rfl⟩
  go_wp2_with fail
  refine (C3.out _).mono ?_
  rintro e x3 ⟨rfl, q3⟩
  go_wp2_with fail
  refine (C4.out _).mono ?_
  rintro e x4 ⟨rfl, q4⟩
  go_wp2_with fail
  refine (C5.out _).mono ?_
  rintro e x5 ⟨A1, n1, c1, rfl, t1, q5⟩
  go_wp2_with fail
  refine (C6.out _).mono ?_
  rintro e x6 ⟨A2, n2, c2, at_, rfl, t2, q6, hat, hat2⟩
  obtain ⟨hat3, hat4⟩ : at_ ≤ s.size ∧ r = s.extract at_ s.size := hat rfl
  clear hat hat2
  have hat5 : at_ < s.size := by
    have := HR.out
    rw [hat4, size_cut _ (Nat.le_refl _)] at this; omega
  have hat6 : ((at_ : Int) == (s.size : Int)) = false := by simp; omega
  have hat7 : (r.toList == (s.extract at_ s.size).toList) = true := by rw [← hat4]; simp
  have H4 := Lib.hid hat4
  clear hat4
  have t3 := t1.on q6
  clear t1
  go_wp2_with fail
  refine (same_any l l _ _ _ (by have := T3.out.2.2; omega) (by have := T3.out.2.2; omega) t3 t2).mono ?_
  rintro e x7 ⟨rfl, q7⟩
  have t4 := t2.on q7
  clear t3 t2
  go_wp2_with fail
  refine (C7.out _).mono ?_
  rintro e x8 ⟨A3, n3, c3, rfl, t5, q8⟩
  obtain rfl := t5.len
  clear t5
  go_wp2_with fail
  refine (awake_any _).mono ?_
  rintro e x9 ⟨rfl, q9⟩
  go_wp2
  go_ret
  exact ⟨rfl, (q1.trans (q3.trans (q4.trans (q5.trans (q6.trans (q7.trans q8)))))).trans q9⟩

theorem walk (a0 : ByteArray) (w0 : a0.size ≤ maxLen) (w : World) :
    Calls Try.prog 4 #[.string a0] w fun e w' => e = .returned (.bool true) ∧ Q w w' := by
  obtain ⟨s, hs⟩ : ∃ s, few a0 = s := ⟨_, rfl⟩
  have hz : s.size ≤ 4100 := by rw [← hs]; exact few_size a0
  have HF := Lib.hid hs
  clear hs
  obtain ⟨⟨x, b, f⟩, h2⟩ : ∃ y, tt s = y := ⟨_, rfl⟩
  obtain ⟨⟨l, r, g⟩, h3⟩ : ∃ y, tls s = y := ⟨_, rfl⟩
  have hl : l.length ≤ 4000 := by have := tls_len s; rw [h3] at this; exact this
  by_cases h8 : s.size < 8
  · have T1 : Hid (tn s = (0, ⟨#[]⟩, 3)) := Lib.hid (by rw [tn, if_pos h8])
    by_cases hf : f = 0
    · subst hf
      have T2 : Hid (tt s = (x, s.extract (ttn s) s.size, 0) ∧ ttn s = ttn s) := Lib.hid ⟨by rw [h2, ← (tt_at h2).2], rfl⟩
      have hd := (tt_at h2).1
      by_cases hg : g = 0
      · subst hg
        by_cases hr : r.size = 0
        · exact caseABB a0 w0 s HF hz w T1 hd T2 hr (Lib.hid ⟨h3, by rw [whl, h3]; simp [hr], hl⟩)
        · exact caseABC a0 w0 s HF hz w T1 hd T2 hr (Lib.hid ⟨h3, by rw [whl, h3]; simp [hr], hl⟩)
      · have h4 := tls_bad h3 hg
        exact caseABA a0 w0 s HF hz w T1 hd T2 (by omega) (Lib.hid ⟨h4, by rw [whl, h4]; simp [hg]⟩)
    · have T2 := Lib.hid (tt_bad h2 hf)
      by_cases hg : g = 0
      · subst hg
        by_cases hr : r.size = 0
        · exact caseAAB a0 w0 s HF hz w T1 (by omega) T2 hr (Lib.hid ⟨h3, by rw [whl, h3]; simp [hr], hl⟩)
        · exact caseAAC a0 w0 s HF hz w T1 (by omega) T2 hr (Lib.hid ⟨h3, by rw [whl, h3]; simp [hr], hl⟩)
      · have h4 := tls_bad h3 hg
        exact caseAAA a0 w0 s HF hz w T1 (by omega) T2 (by omega) (Lib.hid ⟨h4, by rw [whl, h4]; simp [hg]⟩)
  · have T1 : Hid (tn s = (val ((bl s).take 8), s.extract 8 s.size, 0)) := Lib.hid (by rw [tn, if_neg h8])
    by_cases hf : f = 0
    · subst hf
      have T2 : Hid (tt s = (x, s.extract (ttn s) s.size, 0) ∧ ttn s = ttn s) := Lib.hid ⟨by rw [h2, ← (tt_at h2).2], rfl⟩
      have hd := (tt_at h2).1
      by_cases hg : g = 0
      · subst hg
        by_cases hr : r.size = 0
        · exact caseBBB a0 w0 s HF hz w (by omega) T1 hd T2 hr (Lib.hid ⟨h3, by rw [whl, h3]; simp [hr], hl⟩)
        · exact caseBBC a0 w0 s HF hz w (by omega) T1 hd T2 hr (Lib.hid ⟨h3, by rw [whl, h3]; simp [hr], hl⟩)
      · have h4 := tls_bad h3 hg
        exact caseBBA a0 w0 s HF hz w (by omega) T1 hd T2 (by omega) (Lib.hid ⟨h4, by rw [whl, h4]; simp [hg]⟩)
    · have T2 := Lib.hid (tt_bad h2 hf)
      by_cases hg : g = 0
      · subst hg
        by_cases hr : r.size = 0
        · exact caseBAB a0 w0 s HF hz w (by omega) T1 (by omega) T2 hr (Lib.hid ⟨h3, by rw [whl, h3]; simp [hr], hl⟩)
        · exact caseBAC a0 w0 s HF hz w (by omega) T1 (by omega) T2 hr (Lib.hid ⟨h3, by rw [whl, h3]; simp [hr], hl⟩)
      · have h4 := tls_bad h3 hg
        exact caseBAA a0 w0 s HF hz w (by omega) T1 (by omega) T2 (by omega) (Lib.hid ⟨h4, by rw [whl, h4]; simp [hg]⟩)

set_option maxRecDepth 100000 in
theorem lifted (os : Os) (started : os.Started) (H : Type) (enc : TypeId × Value → H) :
    ReturnsInHanded {} Try.checked os 4 .any (Rows.wireTakesSpec.pre6 enc Try.prog Try.f4 Rows.wireTakesRow.domain false) (Rows.wireTakesSpec.post enc Try.prog Try.f4 false true false false) := by
  refine returnsInHanded_of_change (C := Try.checked) own started (by kernel_rfl) Try.func4
    (ChangeSpec.witness6 (enc := enc) (C := Try.checked) false ⟨#[], #[.string ByteArray.empty], []⟩ 8 (by kernel_rfl) (by kernel_rfl) (by kernel_rfl) (by kernel_rfl)) ?_
  intro W base args ds gs before hval0 hW hcnd _
  have hval : ∀ (j : Nat) t v, Try.f4.params[j]? = some t → args[j]? = some v → Value.okWide Try.prog W .any base t v := hval0
  have hW' := hW
  obtain ⟨p, q, hA0, hV, rfl, hfz, hnd⟩ := hW
  have hA : DataW.TrodAll enc Try.prog W 0 (fun _ => true) true Try.f4.params.toList args.toList ds p := hA0
  rw [Try.params4] at hA hval
  obtain ⟨v0, vs0, d0, ds0, p0, q0, hargs, rfl, rfl, h0, r0⟩ := trodAll_cons hA
  obtain ⟨rfl, rfl, rfl⟩ := trodAll_nil r0
  obtain rfl : args = #[v0] := by cases args; simp_all
  obtain ⟨rfl, rfl⟩ := trodVars_none hV
  clear hA0 hval0
  simp only [List.append_nil] at hW'
  have hlt : ∀ x ∈ p0, x.block < W.heap.size := fun x hx => by simpa using hW'.lt x (by simpa using hx)
  obtain ⟨a0, rfl, -, -, w0⟩ := open_string Try.underlying9 (hval 0 9 v0 rfl rfl) h0
  refine (walk a0 w0 W).mono fun e W' ⟨he, bel⟩ => ?_
  subst he
  refine ⟨_, rfl, _, _, _, [], _, [], hW', trodAll_mk1 (shut_bool Try.underlying4 _), (trodAll_cons_mk (Below.trod laid (by kernel_rfl) (of_decide_eq_true (by kernel_rfl)) h0 bel (fun x hx => hlt x (by simp [hx]))) trodAll_mk0), rfl, Below.frame bel _, fun h => by cases h⟩

theorem over : Rows.wireTakesRow.holds Try.pinned (OpenSpec.ofChange Rows.wireTakesSpec) :=
  OpenClaim.holds_of_wide 4 Try.f4 rfl rfl rfl rfl rfl rfl rfl ⟨rfl, rfl, rfl, rfl, rfl⟩ rfl rfl rfl rfl rfl (by kernel_rfl) Try.func4 (by kernel_rfl)
    (of_decide_eq_true (by kernel_rfl)) (by unfold Func.isWrapper; first | (rw [if_pos (by decide +kernel)]; kernel_rfl) | (rw [if_neg (by decide +kernel)]; exact ⟨rfl, rfl⟩))
    (fun os started H enc _ => lifted os started H enc)

theorem proved : Rows.WireTakesSaid := over
#print axioms proved
end Go.Proofs.Ytneclkkbgonkcaa.wireTakes
