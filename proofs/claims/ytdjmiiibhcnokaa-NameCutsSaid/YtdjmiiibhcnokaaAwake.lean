/-
  The chapter's examples hold: awake is true.
-/
import Derived.Test.YtdjmiiibhcnokaaAfters
namespace Go.Proofs.Ytdjmiiibhcnokaa
set_option linter.unusedVariables false
open Go.ChangeShapes Go.WideShapes Go.ChangeAt Go.RowKit

theorem ex1 : groupO ⟨#[97, 47, 98, 47, 99]⟩ ⟨#[97, 47]⟩ ⟨#[47]⟩ = (⟨#[97, 47, 98, 47]⟩, true) := by kernel_rfl
theorem ex2 : groupO ⟨#[97, 47, 98]⟩ ⟨#[97, 47]⟩ ⟨#[47]⟩ = (⟨#[]⟩, false) := by kernel_rfl
theorem ex3 : afterO ⟨#[97, 98]⟩ = ⟨#[97, 99]⟩ := by kernel_rfl
theorem ex4 : afterO ⟨#[126]⟩ = ⟨#[]⟩ := by kernel_rfl
theorem ex5 : bucketO ⟨#[98, 45, 49]⟩ = true := by kernel_rfl
theorem ex6 : bucketO ⟨#[45, 98, 49]⟩ = false := by kernel_rfl

set_option maxHeartbeats 1000000 in
theorem awake_any (w : World) :
    Calls Try.prog 23 #[] w fun e w' => e = .returned (.bool true) ∧ Q w w' := by
  have g1 := fun w => group_any ⟨#[97, 47, 98, 47, 99]⟩ ⟨#[97, 47]⟩ ⟨#[47]⟩ w (by decide) (by decide) (by decide)
  have g2 := fun w => group_any ⟨#[97, 47, 98]⟩ ⟨#[97, 47]⟩ ⟨#[47]⟩ w (by decide) (by decide) (by decide)
  have a1 := fun w => after_any ⟨#[97, 98]⟩ w (by decide)
  have a2 := fun w => after_any ⟨#[126]⟩ w (by decide)
  have b1 := fun w => bucket_any ⟨#[98, 45, 49]⟩ w (by decide)
  have b2 := fun w => bucket_any ⟨#[45, 98, 49]⟩ w (by decide)
  rw [ex1] at g1; rw [ex2] at g2; rw [ex3] at a1; rw [ex4] at a2; rw [ex5] at b1; rw [ex6] at b2
  have G1 := Lib.hid g1; have G2 := Lib.hid g2; have A1 := Lib.hid a1; have A2 := Lib.hid a2; have B1 := Lib.hid b1; have B2 := Lib.hid b2
  clear g1 g2 a1 a2 b1 b2
  go_enter Try.func23, Try.ntmps23
  go_wp2_with fail
  refine (G1.out _).mono ?_
  rintro e w1 ⟨rfl, q1⟩
  go_wp2_with fail
  refine (G2.out _).mono ?_
  rintro e w2 ⟨rfl, q2⟩
  go_wp2_with fail
  refine (A1.out _).mono ?_
  rintro e w3 ⟨rfl, q3⟩
  go_wp2_with fail
  refine (A2.out _).mono ?_
  rintro e w4 ⟨rfl, q4⟩
  go_wp2_with fail
  refine (B1.out _).mono ?_
  rintro e w5 ⟨rfl, q5⟩
  go_wp2_with fail
  refine (B2.out _).mono ?_
  rintro e w6 ⟨rfl, q6⟩
  go_wp2
  go_ret
  exact ⟨rfl, ((((q1.trans q2).trans q3).trans q4).trans q5).trans q6⟩
end Go.Proofs.Ytdjmiiibhcnokaa
