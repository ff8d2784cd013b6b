/-
  Contract of the statements' awake.
-/
import Derived.Test.YtipipjpdlblifaaEPlain
namespace Go.Proofs.Ytipipjpdlblifaa
open Go.ChangeShapes Go.WideShapes Go.ChangeAt Go.RowKit
set_option linter.unusedVariables false
set_option linter.unusedSimpArgs false

def v1 : Ver := ⟨1, ⟨#[120, 121]⟩, false, 0⟩
def kA : ByteArray := ⟨#[97]⟩
def kB : ByteArray := ⟨#[98]⟩
theorem v1_okV : ∀ x ∈ [v1], okV x := by
  intro x hx
  obtain rfl : x = v1 := by simpa using hx
  refine ⟨by decide, by decide +kernel, by decide, by decide⟩
theorem v1_okP : okP [v1] := by
  refine ⟨by simp, fun i => ⟨fun h => ?_, fun j hj h => ?_, fun k hi hk hk' => ?_⟩⟩
  · have : i = 0 := by simpa using h
    subst this
    show mayV v1 = true
    decide +kernel
  · simp at h; omega
  · simp at hi; omega
theorem lt_ab : ltB kA kB = true := by decide +kernel
theorem lt_ba : ltB kB kA = false := by decide +kernel
theorem lt_aa : ltB kA kA = false := by decide +kernel
theorem lt_bb : ltB kB kB = false := by decide +kernel
theorem ok_a : hasO 1 60 ko kA = true := by decide +kernel
theorem ok_b : hasO 1 60 ko kB = true := by decide +kernel
theorem okI_nil : okI [] := okI_iff.2 ⟨by simp, List.Pairwise.nil, by simp⟩
def e1 : List Ent := [⟨kB, [v1]⟩]
def e2 : List Ent := [⟨kA, [v1]⟩, ⟨kB, [v1]⟩]
def e3 : List Ent := [⟨kA, [v1]⟩]
theorem put1 : putE [] kB [v1] = e1 := by simp [putE, e1]
theorem put2 : putE e1 kA [v1] = e2 := by simp [putE, e1, e2, lt_ab, lt_ba]
theorem put3 : putE e2 kB [] = e3 := by simp [putE, e2, e3, lt_ab, lt_ba, lt_bb]
theorem okI_1 : okI e1 := by rw [← put1]; exact okI_put okI_nil ok_b v1_okP (by rw [put1]; simp [e1])
theorem okI_2 : okI e2 := by rw [← put2]; exact okI_put okI_1 ok_a v1_okP (by rw [put2]; simp [e2])
theorem pi1 : PutI [] kB [v1] e1 0 := .inr ⟨⟨okI_nil, ok_b, v1_okP⟩, .inr ⟨by rw [put1]; simp [e1], put1.symm, rfl⟩⟩
theorem pi2 : PutI e1 kA [v1] e2 0 := .inr ⟨⟨okI_1, ok_a, v1_okP⟩, .inr ⟨by rw [put2]; simp [e2], put2.symm, rfl⟩⟩
theorem pi3 : PutI e2 kB [] e3 0 := .inr ⟨⟨okI_2, ok_b, okP_nil⟩, .inr ⟨by rw [put3]; simp [e3], put3.symm, rfl⟩⟩
theorem tiny_a : Tiny ⟨kA, [v1]⟩ := ⟨by decide +kernel, by simp, by intro x hx; obtain rfl : x = v1 := (by simpa using hx); decide +kernel⟩
theorem tiny_b : Tiny ⟨kB, [v1]⟩ := ⟨by decide +kernel, by simp, by intro x hx; obtain rfl : x = v1 := (by simpa using hx); decide +kernel⟩
theorem small_1 : Small e1 := tiny_small (by simp [e1]) (by intro e he; obtain rfl : e = _ := (by simpa [e1] using he); exact tiny_b)
theorem small_2 : Small e2 := tiny_small (by simp [e2]) (by
  intro e he
  simp [e2] at he
  rcases he with rfl | rfl
  · exact tiny_a
  · exact tiny_b)
theorem at_2 : atE e2 kB = 1 := by simp [atE, e2, lt_ab, lt_bb]
theorem many_2 : manyE e2 = 2 := by simp [manyE, e2]
theorem oct_2 : octE e2 = 4 := by simp [octE, octV, e2, v1]; decide +kernel
theorem ver_one (w : World) : Vers (w.alloc (.cells #[.int .u64 1, .string ⟨#[120, 121]⟩, .bool false, .int .i64 0] 63)) (w.alloc (.cells #[.int .u64 1, .string ⟨#[120, 121]⟩, .bool false, .int .i64 0] 63)).heap.size (.slice (some ⟨w.heap.size, 0, none⟩) 1 1) [v1] := by
  refine ⟨_, _, rfl, Nat.le_refl _, (by simp), v1_okV, fun k hk => ?_⟩
  have k0 : k = 0 := by simpa using hk
  subst k0
  refine ⟨_, rfl, by simp, ?_, ?_, ?_, ?_⟩ <;> simp [Addr.add, v1]
end Go.Proofs.Ytipipjpdlblifaa
