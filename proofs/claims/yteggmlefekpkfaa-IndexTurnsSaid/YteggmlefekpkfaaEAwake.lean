/-
  Contract of the statements' awake.
-/
import Derived.Test.YteggmlefekpkfaaEPlain
namespace Go.Proofs.Yteggmlefekpkfaa
open Go.ChangeShapes Go.WideShapes Go.ChangeAt Go.RowKit
set_option linter.unusedVariables false
set_option linter.unusedSimpArgs false

def v1 : Ver := ⟨1, ⟨#[120, 121]⟩, false, 0⟩
def kA : ByteArray := ⟨#[97]⟩
def kB : ByteArray := ⟨#[98]⟩
theorem v1_okV : ∀ x ∈ [v1], okV x := by
  intro x hx
  obtain rfl : x = v1 := by simpa using hx
  refine ⟨by decide, by decide +kernel, by decide, by decide⟩
theorem v1_okP : okP [v1] := by
  refine ⟨by simp, fun i => ⟨fun h => ?_, fun j hj h => ?_, fun k hi hk hk' => ?_⟩⟩
  · have : i = 0 := by simpa using h
    subst this
    show mayV v1 = true
    decide +kernel
  · simp at h; omega
  · simp at hi; omega
theorem lt_ab : ltB kA kB = true := by decide +kernel
theorem lt_ba : ltB kB kA = false := by decide +kernel
theorem lt_aa : ltB kA kA = false := by decide +kernel
theorem lt_bb : ltB kB kB = false := by decide +kernel
theorem ok_a : hasO 1 60 ko kA = true := by decide +kernel
theorem ok_b : hasO 1 60 ko kB = true := by decide +kernel
theorem okI_nil : okI [] := okI_iff.2 ⟨by simp, List.Pairwise.nil, by simp⟩
def e1 : List Ent := [⟨kB, [v1]⟩]
def e2 : List Ent := [⟨kA, [v1]⟩, ⟨kB, [v1]⟩]
def e3 : List Ent := [⟨kA, [v1]⟩]
theorem put1 : putE [] kB [v1] = e1 := by simp [putE, e1]
theorem put2 : putE e1 kA [v1] = e2 := by simp [putE, e1, e2, lt_ab, lt_ba]
theorem put3 : putE e2 kB [] = e3 := by simp [putE, e2, e3, lt_ab, lt_ba, lt_bb]
theorem okI_1 : okI e1 := by rw [← put1]; exact okI_put okI_nil ok_b v1_okP (by rw [put1]; simp [e1])
theorem okI_2 : okI e2 := by rw [← put2]; exact okI_put okI_1 ok_a v1_okP (by rw [put2]; simp [e2])
theorem pi1 : PutI [] kB [v1] e1 0 := .inr ⟨⟨okI_nil, ok_b, v1_okP⟩, .inr ⟨by rw [put1]; simp [e1], put1.symm, rfl⟩⟩
theorem pi2 : PutI e1 kA [v1] e2 0 := .inr ⟨⟨okI_1, ok_a, v1_okP⟩, .inr ⟨by rw [put2]; simp [e2], put2.symm, rfl⟩⟩
theorem pi3 : PutI e2 kB [] e3 0 := .inr ⟨⟨okI_2, ok_b, okP_nil⟩, .inr ⟨by rw [put3]; simp [e3], put3.symm, rfl⟩⟩
theorem tiny_a : Tiny ⟨kA, [v1]⟩ := ⟨by decide +kernel, by simp, by intro x hx; obtain rfl : x = v1 := (by simpa using hx); decide +kernel⟩
theorem tiny_b : Tiny ⟨kB, [v1]⟩ := ⟨by decide +kernel, by simp, by intro x hx; obtain rfl : x = v1 := (by simpa using hx); decide +kernel⟩
theorem small_1 : Small e1 := tiny_small (by simp [e1]) (by intro e he; obtain rfl : e = _ := (by simpa [e1] using he); exact tiny_b)
theorem small_2 : Small e2 := tiny_small (by simp [e2]) (by
  intro e he
  simp [e2] at he
  rcases he with rfl | rfl
  · exact tiny_a
  · exact tiny_b)
theorem at_2 : atE e2 kB = 1 := by simp [atE, e2, lt_ab, lt_bb]
theorem many_2 : manyE e2 = 2 := by simp [manyE, e2]
theorem oct_2 : octE e2 = 4 := by simp [octE, octV, e2, v1]; decide +kernel
theorem ver_one (w : World) : Vers (w.alloc (.cells #[.int .u64 1, .string ⟨#[120, 121]⟩, .bool false, .int .i64 0] 52)) (w.alloc (.cells #[.int .u64 1, .string ⟨#[120, 121]⟩, .bool false, .int .i64 0] 52)).heap.size (.slice (some ⟨w.heap.size, 0, none⟩) 1 1) [v1] := by
  refine ⟨_, _, rfl, Nat.le_refl _, (by simp), v1_okV, fun k hk => ?_⟩
  have k0 : k = 0 := by simpa using hk
  subst k0
  refine ⟨_, rfl, by simp, ?_, ?_, ?_, ?_⟩ <;> simp [Addr.add, v1]
set_option maxHeartbeats 4000000 in
set_option maxRecDepth 100000 in
theorem awake_any (w : World) : Calls Try.prog 17 #[] w fun e w' => e = .returned (.bool true) ∧ Q w w' := by
  have C1 : Hid (∀ b vc, Vers b b.heap.size vc [v1] → Calls Try.prog 12 #[.slice none 0 0, .string ⟨#[98]⟩, vc] b fun e w' => ∃ v', e = .returned (.tuple #[v', .int .i64 0]) ∧ Ents w' w'.heap.size v' e1 ∧ Q b w') := Lib.hid (fun b vc h => putE_any [] kB [v1] e1 0 pi1 _ vc b small_nil (by decide +kernel) (by simp) (Ents.nil _ _) h)
  have C2 : Hid (∀ b v vc, Ents b b.heap.size v e1 → Vers b b.heap.size vc [v1] → Calls Try.prog 12 #[v, .string ⟨#[97]⟩, vc] b fun e w' => ∃ v', e = .returned (.tuple #[v', .int .i64 0]) ∧ Ents w' w'.heap.size v' e2 ∧ Q b w') := Lib.hid (fun b v vc h k => putE_any e1 kA [v1] e2 0 pi2 v vc b small_1 (by decide +kernel) (by simp) h k)
  have C3 : Hid (∀ b v, Ents b b.heap.size v e2 → Calls Try.prog 12 #[v, .string ⟨#[98]⟩, .slice none 0 0] b fun e w' => ∃ v', e = .returned (.tuple #[v', .int .i64 0]) ∧ Ents w' w'.heap.size v' e3 ∧ Q b w') := Lib.hid (fun b v h => putE_any e2 kB [] e3 0 pi3 v _ b small_2 (by decide +kernel) (by simp) h (Vers.nil _ _))
  have C4 : Hid (∀ b v, Ents b b.heap.size v e2 → Calls Try.prog 18 #[v] b fun e w' => e = .returned (.tuple #[.int .i64 2, .int .i64 4]) ∧ Q b w') := Lib.hid (fun b v h => by
    have := count_any e2 v b small_2 h
    rw [many_2, oct_2] at this; exact this)
  have C5 : Hid (∀ b v, Ents b b.heap.size v e2 → Calls Try.prog 19 #[v, .string ⟨#[98]⟩] b fun e w' => e = .returned (.int .i64 1) ∧ Q b w') := Lib.hid (fun b v h => by
    have := at_any e2 kB v b (by simp [e2]) h
    rw [at_2] at this; exact this)
  have VO := Lib.hid (ver_one w)
  have q0 : Q w (w.alloc (.cells #[.int .u64 1, .string ⟨#[120, 121]⟩, .bool false, .int .i64 0] 52)) := (Q.refl w).alloc _
  go_enter Try.func17, Try.ntmps17
  go_wp2_with fail
  refine (C1.out _ _ VO.out).mono ?_
  rintro e w1 ⟨u1, rfl, t1, q1⟩
  have T1 := Lib.hid t1
  clear t1
  go_wp2_with fail
  refine (C2.out _ _ _ T1.out (VO.out.on q1)).mono ?_
  rintro e w2 ⟨u2, rfl, t2, q2⟩
  have T2 := Lib.hid t2
  obtain ⟨a, c2, hv, -, A9, c9, -, hat⟩ := t2.pick 0 (by simp [e2])
  subst hv
  clear t2
  go_wp2_with fail
  refine (C3.out _ _ T2.out).mono ?_
  rintro e w3 ⟨u3, rfl, t3, q3⟩
  obtain ⟨A3, c3, rfl⟩ := t3.form
  have hl2 : e2.length = 2 := rfl
  have hl3 : e3.length = 1 := rfl
  go_wp2_with fail
  refine (C4.out _ _ (T2.out.on q3)).mono ?_
  rintro e w4 ⟨rfl, q4⟩
  have q34 := q3.trans q4
  obtain ⟨d0, -⟩ := hat _ q34
  have d0 : w4.cell? a = some (.string ⟨#[97]⟩) := by
    have h : a.add (0 * 2) = a := by simp [Addr.add]
    rw [h] at d0; exact d0
  clear hat t3
  go_wp2_with fail
  refine (C5.out _ _ (T2.out.on q34)).mono ?_
  rintro e w5 ⟨rfl, q5⟩
  have q := (((q0.trans q1).trans q2).trans q34).trans q5
  clear VO T1 T2 C1 C2 C3 C4 C5
  go_wp2
  go_ret
  exact ⟨rfl, q⟩
end Go.Proofs.Yteggmlefekpkfaa
