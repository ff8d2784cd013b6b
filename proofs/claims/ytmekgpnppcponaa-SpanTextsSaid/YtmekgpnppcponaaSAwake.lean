/-
  Contracts of the statements' cut and awake.
-/
import Derived.Test.YtmekgpnppcponaaSParse
namespace Go.Proofs.Ytmekgpnppcponaa
open Go.ChangeShapes Go.WideShapes Go.ChangeAt Go.RowKit
set_option linter.unusedVariables false

set_option maxHeartbeats 1000000 in
theorem lcut_yes (s d : ByteArray) (w : World) (hs : s.size ≤ 5000) (hd : d.size ≤ 5000) {f t : Nat} {o b : Bool} (hp : psd (bl s) = some (f, t, o, b)) {i k : Nat} (h : ofP f t o b d.size = ((i : Int), (k : Int), (0 : Int))) :
    Calls Try.prog 27 #[.string s, .string d] w fun e w' => e = .returned (.tuple #[.string (d.extract i (i + k)), .int .i64 0]) ∧ Q w w' := by
  have C := Lib.hid (fun w => parse_any s w hs)
  rw [hp] at C
  simp only [parV] at C
  have D := Lib.hid (fun w => cut_yes f t o b d w hd h)
  clear hp h
  rw [spn] at C D
  go_enter Try.func27, Try.ntmps27
  go_wp2_with fail
  refine (C.out _).mono ?_
  rintro e w1 ⟨rfl, q1⟩
  have HQ := Lib.hid (fun o => q1.alloc o)
  go_wp2_with fail
  refine (D.out _).mono ?_
  rintro e w2 ⟨rfl, q2⟩
  go_wp2
  go_ret2
  exact ⟨rfl, (HQ.out _).trans q2⟩
set_option maxHeartbeats 1000000 in
theorem lcut_no (s d : ByteArray) (w : World) (hs : s.size ≤ 5000) (hd : d.size ≤ 5000) {f t : Nat} {o b : Bool} (hp : psd (bl s) = some (f, t, o, b)) {x y e : Int} (h : ofP f t o b d.size = (x, y, e)) (he : e ≠ 0) :
    Calls Try.prog 27 #[.string s, .string d] w fun E w' => E = .returned (.tuple #[.string ⟨#[]⟩, .int .i64 e]) ∧ Q w w' := by
  have C := Lib.hid (fun w => parse_any s w hs)
  rw [hp] at C
  simp only [parV] at C
  have D := Lib.hid (fun w => cut_no f t o b d w hd h he)
  clear hp h
  rw [spn] at C D
  go_enter Try.func27, Try.ntmps27
  go_wp2_with fail
  refine (C.out _).mono ?_
  rintro e w1 ⟨rfl, q1⟩
  have HQ := Lib.hid (fun o => q1.alloc o)
  go_wp2_with fail
  refine (D.out _).mono ?_
  rintro e w2 ⟨rfl, q2⟩
  go_wp2
  go_ret2
  exact ⟨rfl, (HQ.out _).trans q2⟩

set_option maxHeartbeats 1000000 in
theorem awake_any (w : World) :
    Calls Try.prog 16 #[] w fun e w' => e = .returned (.bool true) ∧ Q w w' := by
  have A1 := Lib.hid (fun w => lcut_yes ⟨#[49, 45, 50]⟩ ⟨#[97, 98, 99, 100, 101, 102]⟩ w (by decide) (by decide) (f := 1) (t := 2) (o := false) (b := false) (by decide) (i := 1) (k := 2) (by decide))
  have A2 := Lib.hid (fun w => lcut_yes ⟨#[52, 45]⟩ ⟨#[97, 98, 99, 100, 101, 102]⟩ w (by decide) (by decide) (f := 4) (t := 0) (o := true) (b := false) (by decide) (i := 4) (k := 2) (by decide))
  have A3 := Lib.hid (fun w => lcut_yes ⟨#[45, 57]⟩ ⟨#[97, 98, 99, 100, 101, 102]⟩ w (by decide) (by decide) (f := 0) (t := 9) (o := false) (b := true) (by decide) (i := 0) (k := 6) (by decide))
  have A4 := Lib.hid (fun w => lcut_no ⟨#[54, 45]⟩ ⟨#[97, 98, 99, 100, 101, 102]⟩ w (by decide) (by decide) (f := 6) (t := 0) (o := true) (b := false) (by decide) (x := 0) (y := 0) (e := 12) (by decide) (by decide))
  have e1 : (⟨#[97, 98, 99, 100, 101, 102]⟩ : ByteArray).extract 1 (1 + 2) = ⟨#[98, 99]⟩ := by apply bl_inj; rw [bl_extract]; rfl
  have e2 : (⟨#[97, 98, 99, 100, 101, 102]⟩ : ByteArray).extract 4 (4 + 2) = ⟨#[101, 102]⟩ := by apply bl_inj; rw [bl_extract]; rfl
  have e3 : (⟨#[97, 98, 99, 100, 101, 102]⟩ : ByteArray).extract 0 (0 + 6) = ⟨#[97, 98, 99, 100, 101, 102]⟩ := by apply bl_inj; rw [bl_extract]; rfl
  rw [e1] at A1
  rw [e2] at A2
  rw [e3] at A3
  clear e1 e2 e3
  go_enter Try.func16, Try.ntmps16
  go_wp2_with fail
  refine (A1.out _).mono ?_
  rintro e w1 ⟨rfl, q1⟩
  go_wp2_with fail
  refine (A2.out _).mono ?_
  rintro e w2 ⟨rfl, q2⟩
  go_wp2_with fail
  refine (A3.out _).mono ?_
  rintro e w3 ⟨rfl, q3⟩
  go_wp2_with fail
  refine (A4.out _).mono ?_
  rintro e w4 ⟨rfl, q4⟩
  go_wp2
  trace_state
  go_ret
  exact ⟨rfl, ((q1.trans q2).trans q3).trans q4⟩
end Go.Proofs.Ytmekgpnppcponaa
