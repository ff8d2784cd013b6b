/-
  Contracts of isPlace, May, and the document's in, May.
-/
import Derived.Test.YtmekgpnppcponaaCore
namespace Go.Proofs.Ytmekgpnppcponaa
open Go.ChangeShapes Go.WideShapes Go.ChangeAt Go.RowKit
set_option linter.unusedVariables false

/-- A span, as a value and as it lies in memory. -/
def spn (f t : Int) (o b : Bool) : Value := .agg #[.int .i64 f, .int .i64 t, .bool o, .bool b]
def inP (n : Int) : Bool := decide (0 ≤ n) && decide (n ≤ 1099511627775)
theorem inP_iff {n : Int} : inP n = true ↔ 0 ≤ n ∧ n ≤ 1099511627775 := by simp [inP]
def mayP (f t : Int) (o b : Bool) : Bool :=
  if o then !b && inP f && t == 0 else if b then inP t && f == 0 else inP f && inP t && decide (f ≤ t)

theorem isPlace_any (n : Int) (w : World) :
    Calls Try.prog 25 #[.int .i64 n] w fun e w' => e = .returned (.bool (inP n)) ∧ w = w' := by
  have HF := Lib.hid (show inP n = (decide (0 ≤ n) && decide (n ≤ 1099511627775)) from rfl)
  by_cases a : 0 ≤ n <;> by_cases b : n ≤ 1099511627775
  all_goals
    go_enter Try.func25, Try.ntmps25
    go_wp2
    go_ret
    exact ⟨ret_bool (by rw [HF.out]; simp [*]), rfl⟩
theorem rin_any (n : Int) (w : World) :
    Calls Try.prog 26 #[.int .i64 n] w fun e w' => e = .returned (.bool (inP n)) ∧ w = w' := by
  have HF := Lib.hid (show inP n = (decide (0 ≤ n) && decide (n ≤ 1099511627775)) from rfl)
  by_cases a : 0 ≤ n <;> by_cases b : n ≤ 1099511627775
  all_goals
    go_enter Try.func26, Try.ntmps26
    go_wp2
    go_ret
    exact ⟨ret_bool (by rw [HF.out]; simp [*]), rfl⟩

set_option maxHeartbeats 1000000 in
theorem may_any (f t : Int) (o b : Bool) (w : World) :
    Calls Try.prog 14 #[spn f t o b] w fun e w' => e = .returned (.bool (mayP f t o b)) ∧ Q w w' := by
  have HF := Lib.hid (show mayP f t o b = (if o then !b && inP f && t == 0 else if b then inP t && f == 0 else inP f && inP t && decide (f ≤ t)) from rfl)
  have HQ := Lib.hid (fun o => (Q.refl w).alloc o)
  rw [spn]
  cases o <;> cases b
  · by_cases h : f ≤ t <;> cases h1 : inP f <;> cases h2 : inP t
    all_goals
      go_enter Try.func14, Try.ntmps14
      go_wp2_with fail
      refine (isPlace_any _ _).mono ?_
      rintro e w1 ⟨rfl, rfl⟩
      rw [h1]
      first
      | (go_wp2_with fail
         refine (isPlace_any _ _).mono ?_
         rintro e w1 ⟨rfl, rfl⟩
         rw [h2]
         go_wp2
         go_ret
         exact ⟨ret_bool (by rw [HF.out]; simp [*]), HQ.out _⟩)
      | (go_wp2
         go_ret
         exact ⟨ret_bool (by rw [HF.out]; simp [*]), HQ.out _⟩)
  · cases h : (f == 0) <;> cases h1 : inP t
    all_goals
      have H := Lib.hid h
      go_enter Try.func14, Try.ntmps14
      go_wp2_with fail
      refine (isPlace_any _ _).mono ?_
      rintro e w1 ⟨rfl, rfl⟩
      rw [h1]
      go_wp2
      go_ret
      exact ⟨ret_bool (by rw [HF.out, H.out, h1]; rfl), HQ.out _⟩
  · cases h : (t == 0) <;> cases h1 : inP f
    all_goals
      have H := Lib.hid h
      go_enter Try.func14, Try.ntmps14
      go_wp2_with fail
      refine (isPlace_any _ _).mono ?_
      rintro e w1 ⟨rfl, rfl⟩
      rw [h1]
      go_wp2
      go_ret
      exact ⟨ret_bool (by rw [HF.out, H.out, h1]; rfl), HQ.out _⟩
  · go_enter Try.func14, Try.ntmps14
    go_wp2
    go_ret
    exact ⟨ret_bool (by rw [HF.out]; rfl), HQ.out _⟩
set_option maxHeartbeats 1000000 in
theorem rmay_any (f t : Int) (o b : Bool) (w : World) :
    Calls Try.prog 15 #[spn f t o b] w fun e w' => e = .returned (.bool (mayP f t o b)) ∧ Q w w' := by
  have HF := Lib.hid (show mayP f t o b = (if o then !b && inP f && t == 0 else if b then inP t && f == 0 else inP f && inP t && decide (f ≤ t)) from rfl)
  have HQ := Lib.hid (fun o => (Q.refl w).alloc o)
  rw [spn]
  cases o <;> cases b
  · by_cases h : f ≤ t <;> cases h1 : inP f <;> cases h2 : inP t
    all_goals
      go_enter Try.func15, Try.ntmps15
      go_wp2_with fail
      refine (rin_any _ _).mono ?_
      rintro e w1 ⟨rfl, rfl⟩
      rw [h1]
      first
      | (go_wp2_with fail
         refine (rin_any _ _).mono ?_
         rintro e w1 ⟨rfl, rfl⟩
         rw [h2]
         go_wp2
         go_ret
         exact ⟨ret_bool (by rw [HF.out]; simp [*]), HQ.out _⟩)
      | (go_wp2
         go_ret
         exact ⟨ret_bool (by rw [HF.out]; simp [*]), HQ.out _⟩)
  · cases h : (f == 0) <;> cases h1 : inP t
    all_goals
      have H := Lib.hid h
      go_enter Try.func15, Try.ntmps15
      go_wp2_with fail
      refine (rin_any _ _).mono ?_
      rintro e w1 ⟨rfl, rfl⟩
      rw [h1]
      go_wp2
      go_ret
      exact ⟨ret_bool (by rw [HF.out, H.out, h1]; rfl), HQ.out _⟩
  · cases h : (t == 0) <;> cases h1 : inP f
    all_goals
      have H := Lib.hid h
      go_enter Try.func15, Try.ntmps15
      go_wp2_with fail
      refine (rin_any _ _).mono ?_
      rintro e w1 ⟨rfl, rfl⟩
      rw [h1]
      go_wp2
      go_ret
      exact ⟨ret_bool (by rw [HF.out, H.out, h1]; rfl), HQ.out _⟩
  · go_enter Try.func15, Try.ntmps15
    go_wp2
    go_ret
    exact ⟨ret_bool (by rw [HF.out]; rfl), HQ.out _⟩
end Go.Proofs.Ytmekgpnppcponaa
