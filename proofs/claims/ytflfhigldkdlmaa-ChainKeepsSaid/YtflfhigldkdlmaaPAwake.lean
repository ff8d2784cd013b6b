/-
  Contract of the statements' awake.
-/
import Derived.Test.YtflfhigldkdlmaaVOk
namespace Go.Proofs.Ytflfhigldkdlmaa
open Go.ChangeShapes Go.WideShapes Go.ChangeAt Go.RowKit
set_option linter.unusedVariables false
set_option linter.unusedSimpArgs false

theorem emp_b : ((⟨#[98]⟩ : ByteArray).toList == (⟨#[98]⟩ : ByteArray).toList) = true := by simp
theorem all2 {x y : Ver} (h : okV x) (k : okV y) : ∀ z ∈ [x, y], okV z := by
  intro z hz
  simp at hz
  rcases hz with rfl | rfl
  · exact h
  · exact k
theorem all3 {x y u : Ver} (h : okV x) (k : okV y) (j : okV u) : ∀ z ∈ [x, y, u], okV z := by
  intro z hz
  simp at hz
  rcases hz with rfl | rfl | rfl
  · exact h
  · exact k
  · exact j
set_option maxHeartbeats 4000000 in
set_option maxRecDepth 100000 in
theorem awake_any (w : World) : Calls Try.prog 19 #[] w fun e w' => e = .returned (.bool true) ∧ Q w w' := by
  have C1 : Hid (∀ b, Calls Try.prog 12 #[.slice none 0 0, .int .i64 1, .agg #[.int .u64 1, .string ⟨#[97]⟩, .bool false, .int .i64 0]] b fun e w' => ∃ v', e = .returned (.tuple #[v', .int .i64 0]) ∧ OwnV b.heap.size w' v' [x1] ∧ Q b w') := Lib.hid (fun b => put_any [] _ 1 x1 b _ 0 ex1 (by simp) x1_ok (Vers.nil _ _))
  have C2 : Hid (∀ b u, Vers b b.heap.size u [x1] → Calls Try.prog 12 #[u, .int .i64 1, .agg #[.int .u64 2, .string ⟨#[98]⟩, .bool false, .int .i64 0]] b fun e w' => ∃ v', e = .returned (.tuple #[v', .int .i64 0]) ∧ OwnV b.heap.size w' v' [x2, x1] ∧ Q b w') := Lib.hid (fun b u h => put_any [x1] u 1 x2 b _ 0 ex2 (by simp) x2_ok h)
  have C3 : Hid (∀ b, Calls Try.prog 12 #[.slice none 0 0, .int .i64 0, .agg #[.int .u64 0, .string ⟨#[97]⟩, .bool false, .int .i64 0]] b fun e w' => ∃ v', e = .returned (.tuple #[v', .int .i64 0]) ∧ OwnV b.heap.size w' v' [y1] ∧ Q b w') := Lib.hid (fun b => put_any [] _ 0 y1 b _ 0 ex3 (by simp) y1_ok (Vers.nil _ _))
  have C4 : Hid (∀ b u, Vers b b.heap.size u [y1] → Calls Try.prog 12 #[u, .int .i64 0, .agg #[.int .u64 0, .string ⟨#[98]⟩, .bool false, .int .i64 0]] b fun e w' => ∃ v', e = .returned (.tuple #[v', .int .i64 0]) ∧ OwnV b.heap.size w' v' [y2] ∧ Q b w') := Lib.hid (fun b u h => put_any [y1] u 0 y2 b _ 0 ex4 (by simp) y2_ok h)
  have C5 : Hid (∀ b u, Vers b b.heap.size u [x2, x1] → Calls Try.prog 14 #[u, .int .i64 1, .int .u64 3, .int .i64 0] b fun e w' => ∃ v', e = .returned (.tuple #[v', .int .i64 0]) ∧ OwnV b.heap.size w' v' [m3, x2, x1] ∧ Q b w') := Lib.hid (fun b u h => delete_any [x2, x1] u 1 3 0 b _ 0 ex5 (by simp) (by omega) (by omega) (by omega) h)
  have C6 : Hid (∀ b u, Vers b b.heap.size u [m3, x2, x1] → Calls Try.prog 22 #[u] b fun e w' => e = .returned (.tuple #[.agg #[.int .u64 3, .string ⟨#[]⟩, .bool true, .int .i64 0], .int .i64 13]) ∧ Q b w') := Lib.hid (fun b u h => get_any [m3, x2, x1] u b (delC_ok ex5) (by simp) h)
  have C7 : Hid (∀ b u, Vers b b.heap.size u [m3, x2, x1] → Calls Try.prog 20 #[u, .int .u64 3] b fun e w' => ∃ v', e = .returned (.tuple #[v', .int .i64 0]) ∧ OwnV b.heap.size w' v' [x2, x1] ∧ Q b w') := Lib.hid (fun b u h => drop_any [m3, x2, x1] u 3 b _ 0 ex6 (by simp) h)
  have C8 : Hid (∀ b u, Vers b b.heap.size u [x2, x1] → Calls Try.prog 22 #[u] b fun e w' => e = .returned (.tuple #[.agg #[.int .u64 2, .string ⟨#[98]⟩, .bool false, .int .i64 0], .int .i64 0]) ∧ Q b w') := Lib.hid (fun b u h => get_any [x2, x1] u b (putC_ok ex2) (by simp) h)
  go_enter Try.func19, Try.ntmps19
  go_wp2_with fail
  refine (C1.out _).mono ?_
  rintro e w1 ⟨v1, rfl, o1, q1⟩
  have t1 := o1.vers (by simpa using x1_ok)
  clear o1
  go_wp2_with fail
  refine (C2.out _ _ t1).mono ?_
  rintro e w2 ⟨v2, rfl, o2, q2⟩
  have t2 := Lib.hid (o2.vers (all2 x2_ok x1_ok))
  clear t1
  obtain ⟨A2, c2, rfl⟩ := own_len o2
  clear o2
  go_wp2_with fail
  refine (C3.out _).mono ?_
  rintro e w3 ⟨v3, rfl, o3, q3⟩
  have t3 := o3.vers (by simpa using y1_ok)
  clear o3
  go_wp2_with fail
  refine (C4.out _ _ t3).mono ?_
  rintro e w4 ⟨v4, rfl, o4, q4⟩
  obtain ⟨A4, c4, rfl⟩ := own_len o4
  clear t3 o4
  go_wp2_with fail
  refine (C5.out _ _ (t2.out.on (q3.trans q4))).mono ?_
  rintro e w5 ⟨v5, rfl, o5, q5⟩
  have t5 := Lib.hid (o5.vers (all3 m3_ok x2_ok x1_ok))
  clear o5
  go_wp2_with fail
  refine (C6.out _ _ t5.out).mono ?_
  rintro e w6 ⟨rfl, q6⟩
  have q6a := q6.alloc (.cells #[.int .u64 3, .string ⟨#[]⟩, .bool true, .int .i64 0] 25)
  go_wp2_with fail
  refine (C7.out _ _ (t5.out.on q6a)).mono ?_
  rintro e w7 ⟨v7, rfl, o7, q7⟩
  have t7 := o7.vers (all2 x2_ok x1_ok)
  clear o7
  go_wp2_with fail
  refine (C8.out _ _ t7).mono ?_
  rintro e w8 ⟨rfl, q8⟩
  have q := (((((((q1.trans q2).trans q3).trans q4).trans q5).trans q6a).trans q7).trans q8).alloc (.cells #[.int .u64 2, .string ⟨#[98]⟩, .bool false, .int .i64 0] 25)
  clear t5 t2 t7 C1 C2 C3 C4 C5 C6 C7 C8
  go_wp2
  go_ret
  exact ⟨rfl, q⟩
end Go.Proofs.Ytflfhigldkdlmaa
