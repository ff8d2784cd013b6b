/-
  Pages of things.
-/
import Derived.Test.YtipipjpdlblifaaGMath
namespace Go.Proofs.Ytipipjpdlblifaa
open Go.ChangeShapes Go.WideShapes Go.ChangeAt Go.RowKit
set_option linter.unusedVariables false
set_option linter.unusedSimpArgs false

/-- The things behind a text. -/
def bhd (after : ByteArray) (T : List (ByteArray × Bool)) : List (ByteArray × Bool) := T.filter fun x => ltB after x.1
def keysOf (T : List (ByteArray × Bool)) : List ByteArray := (T.filter fun x => !x.2).map (·.1)
def grpsOf (T : List (ByteArray × Bool)) : List ByteArray := (T.filter fun x => x.2).map (·.1)
theorem bhd_nil (after : ByteArray) : bhd after [] = [] := rfl
theorem bhd_no {after : ByteArray} {pre : List (ByteArray × Bool)} {x : ByteArray × Bool} (h : ltB after x.1 = false) : bhd after (pre ++ [x]) = bhd after pre := by simp [bhd, h]
theorem bhd_yes {after : ByteArray} {pre : List (ByteArray × Bool)} {x : ByteArray × Bool} (h : ltB after x.1 = true) : bhd after (pre ++ [x]) = bhd after pre ++ [x] := by simp [bhd, h]
theorem keysOf_snoc (T : List (ByteArray × Bool)) (k : ByteArray) : keysOf (T ++ [(k, false)]) = keysOf T ++ [k] ∧ grpsOf (T ++ [(k, false)]) = grpsOf T := by simp [keysOf, grpsOf]
theorem grpsOf_snoc (T : List (ByteArray × Bool)) (k : ByteArray) : keysOf (T ++ [(k, true)]) = keysOf T ∧ grpsOf (T ++ [(k, true)]) = grpsOf T ++ [k] := by simp [keysOf, grpsOf]
theorem both_len (T : List (ByteArray × Bool)) : (keysOf T).length + (grpsOf T).length = T.length := by
  induction T with
  | nil => rfl
  | cons x r ih =>
    obtain ⟨k, b⟩ := x
    cases b
    · simp [keysOf, grpsOf] at ih ⊢; omega
    · simp [keysOf, grpsOf] at ih ⊢; omega
/-- What a page of things tells. -/
structure Pg where
  keys : List ByteArray
  grps : List ByteArray
  more : Bool
  last : ByteArray
def pgOf (T : List (ByteArray × Bool)) (more : Bool) : Pg := ⟨keysOf T, grpsOf T, more, lastT T⟩
def pageO (T : List (ByteArray × Bool)) (after : ByteArray) (most : Nat) : Pg := pgOf ((bhd after T).take most) (decide (most < (bhd after T).length))
theorem pageO_all {T : List (ByteArray × Bool)} {after : ByteArray} {most : Nat} (h : (bhd after T).length ≤ most) : pageO T after most = pgOf (bhd after T) false := by
  rw [pageO, List.take_of_length_le h]; congr 1; simp; omega
theorem pageO_more {T pre : List (ByteArray × Bool)} {x : ByteArray × Bool} {after : ByteArray} {most : Nat} (h : pre ++ [x] <+: T) (hx : ltB after x.1 = true) (hm : (bhd after pre).length = most) : pageO T after most = pgOf (bhd after pre) true := by
  obtain ⟨r, rfl⟩ := h
  have e : bhd after (pre ++ [x] ++ r) = bhd after pre ++ (x :: bhd after r) := by simp [bhd, hx]
  rw [pageO, e, ← hm]
  congr 1
  · simp
  · simp
end Go.Proofs.Ytipipjpdlblifaa
