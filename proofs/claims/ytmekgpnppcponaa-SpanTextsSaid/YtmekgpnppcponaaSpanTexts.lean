/-
  Proved: whatever span and text SpanTexts is called with, it returns true and leaves what it was given as it was. No condition.
-/
import Derived.Test.YtmekgpnppcponaaSAwake
import Derived.Test.YtmekgpnppcponaaSMath
import Derived.Test.YtmekgpnppcponaaSRParse
import Derived.Test.YtmekgpnppcponaaSOpen
import Derived.Deep.RegionHeld3
namespace Go.Proofs.Ytmekgpnppcponaa.spanTexts
open Go.ChangeShapes Go.WideShapes Go.ChangeAt Go.RowKit
open Go.ChangeMaps (open_string shut_string)
set_option linter.unusedVariables false
set_option linter.unusedSimpArgs false

attribute [local irreducible] ofP few mayP psd txtP
set_option maxHeartbeats 8000000 in
set_option maxRecDepth 100000 in
theorem walk (f t : Int) (o b : Bool) (d : ByteArray) (w : World) (w0 : in64 f) (w00 : in64 t) (w1 : d.size ≤ maxLen) :
    Calls Try.prog 3 #[spn f t o b, .string d] w fun e w' => e = .returned (.bool true) ∧ Q w w' := by
  have fs := few_size d
  have FF := Lib.hid fun w => few_any d w w1
  obtain ⟨D, hD⟩ : ∃ D, D = few d := ⟨_, rfl⟩
  rw [← hD] at fs FF
  clear hD
  have hD0 : D.size ≤ 5000 := by omega
  have n0 : (⟨#[]⟩ : ByteArray).toList = [] := by kernel_rfl
  clear w0 w00 w1
  have P := Lib.hid fun w => parse_any D w hD0
  have R := Lib.hid fun w => rparse_any D w hD0
  cases hm0 : mayP f t o b with
  | false =>
    have hm := Lib.hid hm0
    have T := Lib.hid fun w => text_no f t o b w hm0
    clear hm0
    have M3 := Lib.hid fun w => rmay_any f t o b w
    rw [hm.out] at M3
    cases hp : psd (bl D) with
    | none =>
      rw [hp] at P R
      simp only [parV, rparV, spn] at P R
      clear hp
      rw [spn] at T M3 ⊢
      go_enter Try.func3, Try.ntmps3
      go_wp2_with fail
      refine (FF.out _).mono ?_
      rintro e w0 ⟨rfl, rfl⟩
      go_wp2_with fail
      refine (T.out _).mono ?_
      rintro e w1 ⟨rfl, q1⟩
      have C1 := cells_of q1
      have g1 : w.heap.size < w1.heap.size := by have := q1.size; simp at this; omega
      go_wp2_with fail
      refine (P.out _).mono ?_
      rintro e w2 ⟨rfl, q2⟩
      have C2 := Cells.on C1 g1 q2
      have g2 := Nat.lt_of_lt_of_le g1 q2.size
      go_wp2_with fail
      refine (R.out _).mono ?_
      rintro e w3 ⟨rfl, q3⟩
      have C3 := Cells.on C2 g2 (((Q.refl w2).alloc _).trans q3)
      have P3 := cells_of q3
      have g3 : w2.heap.size < w3.heap.size := by have := q3.size; simp at this; omega
      have g0 : w.heap.size < w3.heap.size := by omega
      have q0 := ((((((Q.refl w).alloc _).trans q1).trans q2).alloc _).trans q3)
      go_wp2_with fail
      have S0 : (fun w' => w'.cell? ⟨w.heap.size, 0, none⟩ = some (.int .i64 f) ∧ w'.cell? ⟨w.heap.size, 1, none⟩ = some (.int .i64 t) ∧ w'.cell? ⟨w.heap.size, 2, none⟩ = some (.bool o) ∧ w'.cell? ⟨w.heap.size, 3, none⟩ = some (.bool b) ∧ w'.cell? ⟨w2.heap.size, 0, none⟩ = some (.int .i64 0) ∧ w'.cell? ⟨w2.heap.size, 1, none⟩ = some (.int .i64 0) ∧ w'.cell? ⟨w2.heap.size, 2, none⟩ = some (.bool false) ∧ w'.cell? ⟨w2.heap.size, 3, none⟩ = some (.bool false) ∧ w'.cell? ⟨w3.heap.size, 0, none⟩ = some (.int .i64 0) ∧ w'.cell? ⟨w3.heap.size, 1, none⟩ = some (.int .i64 0) ∧ w'.cell? ⟨w3.heap.size, 2, none⟩ = some (.bool false) ∧ w'.cell? ⟨w3.heap.size, 3, none⟩ = some (.bool false) ∧ w.heap.size < w3.heap.size ∧ w2.heap.size < w3.heap.size ∧ w3.heap.size < w'.heap.size ∧ Q w w') (w3.alloc (.cells #[.int .i64 0, .int .i64 0, .bool false, .bool false] 23)).drew := by
        obtain ⟨c0, c1, c2, c3⟩ := Cells.on C3 g0 ((Q.refl w3).alloc (.cells #[.int .i64 0, .int .i64 0, .bool false, .bool false] 23)).drew
        obtain ⟨p0, p1, p2, p3⟩ := Cells.on P3 g3 ((Q.refl w3).alloc (.cells #[.int .i64 0, .int .i64 0, .bool false, .bool false] 23)).drew
        obtain ⟨r0, r1, r2, r3⟩ := cells_of (w := w3) (w1 := (w3.alloc (.cells #[.int .i64 0, .int .i64 0, .bool false, .bool false] 23)).drew) (Q.refl _).drew
        exact ⟨c0, c1, c2, c3, p0, p1, p2, p3, r0, r1, r2, r3, g0, g3, by simp, (q0.alloc _).drew⟩
      have KS : Hid (∀ a c, (fun w' => w'.cell? ⟨w.heap.size, 0, none⟩ = some (.int .i64 f) ∧ w'.cell? ⟨w.heap.size, 1, none⟩ = some (.int .i64 t) ∧ w'.cell? ⟨w.heap.size, 2, none⟩ = some (.bool o) ∧ w'.cell? ⟨w.heap.size, 3, none⟩ = some (.bool b) ∧ w'.cell? ⟨w2.heap.size, 0, none⟩ = some (.int .i64 0) ∧ w'.cell? ⟨w2.heap.size, 1, none⟩ = some (.int .i64 0) ∧ w'.cell? ⟨w2.heap.size, 2, none⟩ = some (.bool false) ∧ w'.cell? ⟨w2.heap.size, 3, none⟩ = some (.bool false) ∧ w'.cell? ⟨w3.heap.size, 0, none⟩ = some (.int .i64 0) ∧ w'.cell? ⟨w3.heap.size, 1, none⟩ = some (.int .i64 0) ∧ w'.cell? ⟨w3.heap.size, 2, none⟩ = some (.bool false) ∧ w'.cell? ⟨w3.heap.size, 3, none⟩ = some (.bool false) ∧ w.heap.size < w3.heap.size ∧ w2.heap.size < w3.heap.size ∧ w3.heap.size < w'.heap.size ∧ Q w w') a → Q a c → (fun w' => w'.cell? ⟨w.heap.size, 0, none⟩ = some (.int .i64 f) ∧ w'.cell? ⟨w.heap.size, 1, none⟩ = some (.int .i64 t) ∧ w'.cell? ⟨w.heap.size, 2, none⟩ = some (.bool o) ∧ w'.cell? ⟨w.heap.size, 3, none⟩ = some (.bool b) ∧ w'.cell? ⟨w2.heap.size, 0, none⟩ = some (.int .i64 0) ∧ w'.cell? ⟨w2.heap.size, 1, none⟩ = some (.int .i64 0) ∧ w'.cell? ⟨w2.heap.size, 2, none⟩ = some (.bool false) ∧ w'.cell? ⟨w2.heap.size, 3, none⟩ = some (.bool false) ∧ w'.cell? ⟨w3.heap.size, 0, none⟩ = some (.int .i64 0) ∧ w'.cell? ⟨w3.heap.size, 1, none⟩ = some (.int .i64 0) ∧ w'.cell? ⟨w3.heap.size, 2, none⟩ = some (.bool false) ∧ w'.cell? ⟨w3.heap.size, 3, none⟩ = some (.bool false) ∧ w.heap.size < w3.heap.size ∧ w2.heap.size < w3.heap.size ∧ w3.heap.size < w'.heap.size ∧ Q w w') c) := Lib.hid (by
        intro a c h q'
        obtain ⟨c0, c1, c2, c3, p0, p1, p2, p3, r0, r1, r2, r3, z1, z2, z3, q⟩ := h
        obtain ⟨c0, c1, c2, c3⟩ := Cells.on ⟨c0, c1, c2, c3⟩ (by omega) q'
        obtain ⟨p0, p1, p2, p3⟩ := Cells.on ⟨p0, p1, p2, p3⟩ (by omega) q'
        obtain ⟨r0, r1, r2, r3⟩ := Cells.on ⟨r0, r1, r2, r3⟩ (by omega) q'
        exact ⟨c0, c1, c2, c3, p0, p1, p2, p3, r0, r1, r2, r3, z1, z2, Nat.lt_of_lt_of_le z3 q'.size, q.trans q'⟩)
      have M1 : Hid (∀ a, (fun w' => w'.cell? ⟨w.heap.size, 0, none⟩ = some (.int .i64 f) ∧ w'.cell? ⟨w.heap.size, 1, none⟩ = some (.int .i64 t) ∧ w'.cell? ⟨w.heap.size, 2, none⟩ = some (.bool o) ∧ w'.cell? ⟨w.heap.size, 3, none⟩ = some (.bool b) ∧ w'.cell? ⟨w2.heap.size, 0, none⟩ = some (.int .i64 0) ∧ w'.cell? ⟨w2.heap.size, 1, none⟩ = some (.int .i64 0) ∧ w'.cell? ⟨w2.heap.size, 2, none⟩ = some (.bool false) ∧ w'.cell? ⟨w2.heap.size, 3, none⟩ = some (.bool false) ∧ w'.cell? ⟨w3.heap.size, 0, none⟩ = some (.int .i64 0) ∧ w'.cell? ⟨w3.heap.size, 1, none⟩ = some (.int .i64 0) ∧ w'.cell? ⟨w3.heap.size, 2, none⟩ = some (.bool false) ∧ w'.cell? ⟨w3.heap.size, 3, none⟩ = some (.bool false) ∧ w.heap.size < w3.heap.size ∧ w2.heap.size < w3.heap.size ∧ w3.heap.size < w'.heap.size ∧ Q w w') a → Calls Try.prog 14 #[.agg #[.int .i64 f, .int .i64 t, .bool o, .bool b]] a fun e w' => e = .returned (.bool false) ∧ (fun w' => w'.cell? ⟨w.heap.size, 0, none⟩ = some (.int .i64 f) ∧ w'.cell? ⟨w.heap.size, 1, none⟩ = some (.int .i64 t) ∧ w'.cell? ⟨w.heap.size, 2, none⟩ = some (.bool o) ∧ w'.cell? ⟨w.heap.size, 3, none⟩ = some (.bool b) ∧ w'.cell? ⟨w2.heap.size, 0, none⟩ = some (.int .i64 0) ∧ w'.cell? ⟨w2.heap.size, 1, none⟩ = some (.int .i64 0) ∧ w'.cell? ⟨w2.heap.size, 2, none⟩ = some (.bool false) ∧ w'.cell? ⟨w2.heap.size, 3, none⟩ = some (.bool false) ∧ w'.cell? ⟨w3.heap.size, 0, none⟩ = some (.int .i64 0) ∧ w'.cell? ⟨w3.heap.size, 1, none⟩ = some (.int .i64 0) ∧ w'.cell? ⟨w3.heap.size, 2, none⟩ = some (.bool false) ∧ w'.cell? ⟨w3.heap.size, 3, none⟩ = some (.bool false) ∧ w.heap.size < w3.heap.size ∧ w2.heap.size < w3.heap.size ∧ w3.heap.size < w'.heap.size ∧ Q w w') w') := Lib.hid (by
        intro a h
        refine (may_any f t o b a).mono ?_
        rintro e w' ⟨rfl, q'⟩
        rw [hm.out]
        exact ⟨rfl, KS.out a w' h q'⟩)
      have M2 : Hid (∀ a, (fun w' => w'.cell? ⟨w.heap.size, 0, none⟩ = some (.int .i64 f) ∧ w'.cell? ⟨w.heap.size, 1, none⟩ = some (.int .i64 t) ∧ w'.cell? ⟨w.heap.size, 2, none⟩ = some (.bool o) ∧ w'.cell? ⟨w.heap.size, 3, none⟩ = some (.bool b) ∧ w'.cell? ⟨w2.heap.size, 0, none⟩ = some (.int .i64 0) ∧ w'.cell? ⟨w2.heap.size, 1, none⟩ = some (.int .i64 0) ∧ w'.cell? ⟨w2.heap.size, 2, none⟩ = some (.bool false) ∧ w'.cell? ⟨w2.heap.size, 3, none⟩ = some (.bool false) ∧ w'.cell? ⟨w3.heap.size, 0, none⟩ = some (.int .i64 0) ∧ w'.cell? ⟨w3.heap.size, 1, none⟩ = some (.int .i64 0) ∧ w'.cell? ⟨w3.heap.size, 2, none⟩ = some (.bool false) ∧ w'.cell? ⟨w3.heap.size, 3, none⟩ = some (.bool false) ∧ w.heap.size < w3.heap.size ∧ w2.heap.size < w3.heap.size ∧ w3.heap.size < w'.heap.size ∧ Q w w') a → Calls Try.prog 15 #[.agg #[.int .i64 f, .int .i64 t, .bool o, .bool b]] a fun e w' => e = .returned (.bool false) ∧ (fun w' => w'.cell? ⟨w.heap.size, 0, none⟩ = some (.int .i64 f) ∧ w'.cell? ⟨w.heap.size, 1, none⟩ = some (.int .i64 t) ∧ w'.cell? ⟨w.heap.size, 2, none⟩ = some (.bool o) ∧ w'.cell? ⟨w.heap.size, 3, none⟩ = some (.bool b) ∧ w'.cell? ⟨w2.heap.size, 0, none⟩ = some (.int .i64 0) ∧ w'.cell? ⟨w2.heap.size, 1, none⟩ = some (.int .i64 0) ∧ w'.cell? ⟨w2.heap.size, 2, none⟩ = some (.bool false) ∧ w'.cell? ⟨w2.heap.size, 3, none⟩ = some (.bool false) ∧ w'.cell? ⟨w3.heap.size, 0, none⟩ = some (.int .i64 0) ∧ w'.cell? ⟨w3.heap.size, 1, none⟩ = some (.int .i64 0) ∧ w'.cell? ⟨w3.heap.size, 2, none⟩ = some (.bool false) ∧ w'.cell? ⟨w3.heap.size, 3, none⟩ = some (.bool false) ∧ w.heap.size < w3.heap.size ∧ w2.heap.size < w3.heap.size ∧ w3.heap.size < w'.heap.size ∧ Q w w') w') := Lib.hid (by
        intro a h
        refine (rmay_any f t o b a).mono ?_
        rintro e w' ⟨rfl, q'⟩
        rw [hm.out]
        exact ⟨rfl, KS.out a w' h q'⟩)
      have SN : Hid ((fun w' => w'.cell? ⟨w.heap.size, 0, none⟩ = some (.int .i64 f) ∧ w'.cell? ⟨w.heap.size, 1, none⟩ = some (.int .i64 t) ∧ w'.cell? ⟨w.heap.size, 2, none⟩ = some (.bool o) ∧ w'.cell? ⟨w.heap.size, 3, none⟩ = some (.bool b) ∧ w'.cell? ⟨w2.heap.size, 0, none⟩ = some (.int .i64 0) ∧ w'.cell? ⟨w2.heap.size, 1, none⟩ = some (.int .i64 0) ∧ w'.cell? ⟨w2.heap.size, 2, none⟩ = some (.bool false) ∧ w'.cell? ⟨w2.heap.size, 3, none⟩ = some (.bool false) ∧ w'.cell? ⟨w3.heap.size, 0, none⟩ = some (.int .i64 0) ∧ w'.cell? ⟨w3.heap.size, 1, none⟩ = some (.int .i64 0) ∧ w'.cell? ⟨w3.heap.size, 2, none⟩ = some (.bool false) ∧ w'.cell? ⟨w3.heap.size, 3, none⟩ = some (.bool false) ∧ w.heap.size < w3.heap.size ∧ w2.heap.size < w3.heap.size ∧ w3.heap.size < w'.heap.size ∧ Q w w') (w3.alloc (.cells #[.int .i64 0, .int .i64 0, .bool false, .bool false] 23)).drew) := Lib.hid S0
      clear q0 S0 C1 C2 C3 P3 g1 g2 g3 g0
      go_region_held3 (fun w' => w'.cell? ⟨w.heap.size, 0, none⟩ = some (.int .i64 f) ∧ w'.cell? ⟨w.heap.size, 1, none⟩ = some (.int .i64 t) ∧ w'.cell? ⟨w.heap.size, 2, none⟩ = some (.bool o) ∧ w'.cell? ⟨w.heap.size, 3, none⟩ = some (.bool b) ∧ w'.cell? ⟨w2.heap.size, 0, none⟩ = some (.int .i64 0) ∧ w'.cell? ⟨w2.heap.size, 1, none⟩ = some (.int .i64 0) ∧ w'.cell? ⟨w2.heap.size, 2, none⟩ = some (.bool false) ∧ w'.cell? ⟨w2.heap.size, 3, none⟩ = some (.bool false) ∧ w'.cell? ⟨w3.heap.size, 0, none⟩ = some (.int .i64 0) ∧ w'.cell? ⟨w3.heap.size, 1, none⟩ = some (.int .i64 0) ∧ w'.cell? ⟨w3.heap.size, 2, none⟩ = some (.bool false) ∧ w'.cell? ⟨w3.heap.size, 3, none⟩ = some (.bool false) ∧ w.heap.size < w3.heap.size ∧ w2.heap.size < w3.heap.size ∧ w3.heap.size < w'.heap.size ∧ Q w w') (first | exact SN.out | assumption) (first | (go_at_call 14; refine (M1.out _ (by assumption)).mono ?_; rintro e w' ⟨rfl, hS⟩) | (go_at_call 15; refine (M2.out _ (by assumption)).mono ?_; rintro e w' ⟨rfl, hS⟩))
      obtain ⟨c0, c1, c2, c3, p0, p1, p2, p3, r0, r1, r2, r3, z1, z2, z3, q⟩ := hS
      clear KS SN M1 M2 p0 p1 p2 p3 r0 r1 r2 r3
      go_wp2_with fail
      refine (M3.out _).mono ?_
      rintro e w6 ⟨rfl, q6⟩
      go_wp2_with fail
      refine (awake_any _).mono ?_
      rintro e w9 ⟨rfl, q9⟩
      go_wp2
      go_ret
      exact ⟨rfl, ((q.trans q6)).trans q9⟩
    | some v =>
      obtain ⟨x, y, o', b'⟩ := v
      rw [hp] at P R
      simp only [parV, rparV, spn] at P R
      clear hp
      rw [spn] at T M3 ⊢
      go_enter Try.func3, Try.ntmps3
      go_wp2_with fail
      refine (FF.out _).mono ?_
      rintro e w0 ⟨rfl, rfl⟩
      go_wp2_with fail
      refine (T.out _).mono ?_
      rintro e w1 ⟨rfl, q1⟩
      have C1 := cells_of q1
      have g1 : w.heap.size < w1.heap.size := by have := q1.size; simp at this; omega
      go_wp2_with fail
      refine (P.out _).mono ?_
      rintro e w2 ⟨rfl, q2⟩
      have C2 := Cells.on C1 g1 q2
      have g2 := Nat.lt_of_lt_of_le g1 q2.size
      go_wp2_with fail
      refine (R.out _).mono ?_
      rintro e w3 ⟨rfl, q3⟩
      have C3 := Cells.on C2 g2 (((Q.refl w2).alloc _).trans q3)
      have P3 := cells_of q3
      have g3 : w2.heap.size < w3.heap.size := by have := q3.size; simp at this; omega
      have g0 : w.heap.size < w3.heap.size := by omega
      have q0 := ((((((Q.refl w).alloc _).trans q1).trans q2).alloc _).trans q3)
      go_wp2_with fail
      have S0 : (fun w' => w'.cell? ⟨w.heap.size, 0, none⟩ = some (.int .i64 f) ∧ w'.cell? ⟨w.heap.size, 1, none⟩ = some (.int .i64 t) ∧ w'.cell? ⟨w.heap.size, 2, none⟩ = some (.bool o) ∧ w'.cell? ⟨w.heap.size, 3, none⟩ = some (.bool b) ∧ w'.cell? ⟨w2.heap.size, 0, none⟩ = some (.int .i64 x) ∧ w'.cell? ⟨w2.heap.size, 1, none⟩ = some (.int .i64 y) ∧ w'.cell? ⟨w2.heap.size, 2, none⟩ = some (.bool o') ∧ w'.cell? ⟨w2.heap.size, 3, none⟩ = some (.bool b') ∧ w'.cell? ⟨w3.heap.size, 0, none⟩ = some (.int .i64 x) ∧ w'.cell? ⟨w3.heap.size, 1, none⟩ = some (.int .i64 y) ∧ w'.cell? ⟨w3.heap.size, 2, none⟩ = some (.bool o') ∧ w'.cell? ⟨w3.heap.size, 3, none⟩ = some (.bool b') ∧ w.heap.size < w3.heap.size ∧ w2.heap.size < w3.heap.size ∧ w3.heap.size < w'.heap.size ∧ Q w w') (w3.alloc (.cells #[.int .i64 x, .int .i64 y, .bool o', .bool b'] 23)).drew := by
        obtain ⟨c0, c1, c2, c3⟩ := Cells.on C3 g0 ((Q.refl w3).alloc (.cells #[.int .i64 x, .int .i64 y, .bool o', .bool b'] 23)).drew
        obtain ⟨p0, p1, p2, p3⟩ := Cells.on P3 g3 ((Q.refl w3).alloc (.cells #[.int .i64 x, .int .i64 y, .bool o', .bool b'] 23)).drew
        obtain ⟨r0, r1, r2, r3⟩ := cells_of (w := w3) (w1 := (w3.alloc (.cells #[.int .i64 x, .int .i64 y, .bool o', .bool b'] 23)).drew) (Q.refl _).drew
        exact ⟨c0, c1, c2, c3, p0, p1, p2, p3, r0, r1, r2, r3, g0, g3, by simp, (q0.alloc _).drew⟩
      have KS : Hid (∀ a c, (fun w' => w'.cell? ⟨w.heap.size, 0, none⟩ = some (.int .i64 f) ∧ w'.cell? ⟨w.heap.size, 1, none⟩ = some (.int .i64 t) ∧ w'.cell? ⟨w.heap.size, 2, none⟩ = some (.bool o) ∧ w'.cell? ⟨w.heap.size, 3, none⟩ = some (.bool b) ∧ w'.cell? ⟨w2.heap.size, 0, none⟩ = some (.int .i64 x) ∧ w'.cell? ⟨w2.heap.size, 1, none⟩ = some (.int .i64 y) ∧ w'.cell? ⟨w2.heap.size, 2, none⟩ = some (.bool o') ∧ w'.cell? ⟨w2.heap.size, 3, none⟩ = some (.bool b') ∧ w'.cell? ⟨w3.heap.size, 0, none⟩ = some (.int .i64 x) ∧ w'.cell? ⟨w3.heap.size, 1, none⟩ = some (.int .i64 y) ∧ w'.cell? ⟨w3.heap.size, 2, none⟩ = some (.bool o') ∧ w'.cell? ⟨w3.heap.size, 3, none⟩ = some (.bool b') ∧ w.heap.size < w3.heap.size ∧ w2.heap.size < w3.heap.size ∧ w3.heap.size < w'.heap.size ∧ Q w w') a → Q a c → (fun w' => w'.cell? ⟨w.heap.size, 0, none⟩ = some (.int .i64 f) ∧ w'.cell? ⟨w.heap.size, 1, none⟩ = some (.int .i64 t) ∧ w'.cell? ⟨w.heap.size, 2, none⟩ = some (.bool o) ∧ w'.cell? ⟨w.heap.size, 3, none⟩ = some (.bool b) ∧ w'.cell? ⟨w2.heap.size, 0, none⟩ = some (.int .i64 x) ∧ w'.cell? ⟨w2.heap.size, 1, none⟩ = some (.int .i64 y) ∧ w'.cell? ⟨w2.heap.size, 2, none⟩ = some (.bool o') ∧ w'.cell? ⟨w2.heap.size, 3, none⟩ = some (.bool b') ∧ w'.cell? ⟨w3.heap.size, 0, none⟩ = some (.int .i64 x) ∧ w'.cell? ⟨w3.heap.size, 1, none⟩ = some (.int .i64 y) ∧ w'.cell? ⟨w3.heap.size, 2, none⟩ = some (.bool o') ∧ w'.cell? ⟨w3.heap.size, 3, none⟩ = some (.bool b') ∧ w.heap.size < w3.heap.size ∧ w2.heap.size < w3.heap.size ∧ w3.heap.size < w'.heap.size ∧ Q w w') c) := Lib.hid (by
        intro a c h q'
        obtain ⟨c0, c1, c2, c3, p0, p1, p2, p3, r0, r1, r2, r3, z1, z2, z3, q⟩ := h
        obtain ⟨c0, c1, c2, c3⟩ := Cells.on ⟨c0, c1, c2, c3⟩ (by omega) q'
        obtain ⟨p0, p1, p2, p3⟩ := Cells.on ⟨p0, p1, p2, p3⟩ (by omega) q'
        obtain ⟨r0, r1, r2, r3⟩ := Cells.on ⟨r0, r1, r2, r3⟩ (by omega) q'
        exact ⟨c0, c1, c2, c3, p0, p1, p2, p3, r0, r1, r2, r3, z1, z2, Nat.lt_of_lt_of_le z3 q'.size, q.trans q'⟩)
      have M1 : Hid (∀ a, (fun w' => w'.cell? ⟨w.heap.size, 0, none⟩ = some (.int .i64 f) ∧ w'.cell? ⟨w.heap.size, 1, none⟩ = some (.int .i64 t) ∧ w'.cell? ⟨w.heap.size, 2, none⟩ = some (.bool o) ∧ w'.cell? ⟨w.heap.size, 3, none⟩ = some (.bool b) ∧ w'.cell? ⟨w2.heap.size, 0, none⟩ = some (.int .i64 x) ∧ w'.cell? ⟨w2.heap.size, 1, none⟩ = some (.int .i64 y) ∧ w'.cell? ⟨w2.heap.size, 2, none⟩ = some (.bool o') ∧ w'.cell? ⟨w2.heap.size, 3, none⟩ = some (.bool b') ∧ w'.cell? ⟨w3.heap.size, 0, none⟩ = some (.int .i64 x) ∧ w'.cell? ⟨w3.heap.size, 1, none⟩ = some (.int .i64 y) ∧ w'.cell? ⟨w3.heap.size, 2, none⟩ = some (.bool o') ∧ w'.cell? ⟨w3.heap.size, 3, none⟩ = some (.bool b') ∧ w.heap.size < w3.heap.size ∧ w2.heap.size < w3.heap.size ∧ w3.heap.size < w'.heap.size ∧ Q w w') a → Calls Try.prog 14 #[.agg #[.int .i64 f, .int .i64 t, .bool o, .bool b]] a fun e w' => e = .returned (.bool false) ∧ (fun w' => w'.cell? ⟨w.heap.size, 0, none⟩ = some (.int .i64 f) ∧ w'.cell? ⟨w.heap.size, 1, none⟩ = some (.int .i64 t) ∧ w'.cell? ⟨w.heap.size, 2, none⟩ = some (.bool o) ∧ w'.cell? ⟨w.heap.size, 3, none⟩ = some (.bool b) ∧ w'.cell? ⟨w2.heap.size, 0, none⟩ = some (.int .i64 x) ∧ w'.cell? ⟨w2.heap.size, 1, none⟩ = some (.int .i64 y) ∧ w'.cell? ⟨w2.heap.size, 2, none⟩ = some (.bool o') ∧ w'.cell? ⟨w2.heap.size, 3, none⟩ = some (.bool b') ∧ w'.cell? ⟨w3.heap.size, 0, none⟩ = some (.int .i64 x) ∧ w'.cell? ⟨w3.heap.size, 1, none⟩ = some (.int .i64 y) ∧ w'.cell? ⟨w3.heap.size, 2, none⟩ = some (.bool o') ∧ w'.cell? ⟨w3.heap.size, 3, none⟩ = some (.bool b') ∧ w.heap.size < w3.heap.size ∧ w2.heap.size < w3.heap.size ∧ w3.heap.size < w'.heap.size ∧ Q w w') w') := Lib.hid (by
        intro a h
        refine (may_any f t o b a).mono ?_
        rintro e w' ⟨rfl, q'⟩
        rw [hm.out]
        exact ⟨rfl, KS.out a w' h q'⟩)
      have M2 : Hid (∀ a, (fun w' => w'.cell? ⟨w.heap.size, 0, none⟩ = some (.int .i64 f) ∧ w'.cell? ⟨w.heap.size, 1, none⟩ = some (.int .i64 t) ∧ w'.cell? ⟨w.heap.size, 2, none⟩ = some (.bool o) ∧ w'.cell? ⟨w.heap.size, 3, none⟩ = some (.bool b) ∧ w'.cell? ⟨w2.heap.size, 0, none⟩ = some (.int .i64 x) ∧ w'.cell? ⟨w2.heap.size, 1, none⟩ = some (.int .i64 y) ∧ w'.cell? ⟨w2.heap.size, 2, none⟩ = some (.bool o') ∧ w'.cell? ⟨w2.heap.size, 3, none⟩ = some (.bool b') ∧ w'.cell? ⟨w3.heap.size, 0, none⟩ = some (.int .i64 x) ∧ w'.cell? ⟨w3.heap.size, 1, none⟩ = some (.int .i64 y) ∧ w'.cell? ⟨w3.heap.size, 2, none⟩ = some (.bool o') ∧ w'.cell? ⟨w3.heap.size, 3, none⟩ = some (.bool b') ∧ w.heap.size < w3.heap.size ∧ w2.heap.size < w3.heap.size ∧ w3.heap.size < w'.heap.size ∧ Q w w') a → Calls Try.prog 15 #[.agg #[.int .i64 f, .int .i64 t, .bool o, .bool b]] a fun e w' => e = .returned (.bool false) ∧ (fun w' => w'.cell? ⟨w.heap.size, 0, none⟩ = some (.int .i64 f) ∧ w'.cell? ⟨w.heap.size, 1, none⟩ = some (.int .i64 t) ∧ w'.cell? ⟨w.heap.size, 2, none⟩ = some (.bool o) ∧ w'.cell? ⟨w.heap.size, 3, none⟩ = some (.bool b) ∧ w'.cell? ⟨w2.heap.size, 0, none⟩ = some (.int .i64 x) ∧ w'.cell? ⟨w2.heap.size, 1, none⟩ = some (.int .i64 y) ∧ w'.cell? ⟨w2.heap.size, 2, none⟩ = some (.bool o') ∧ w'.cell? ⟨w2.heap.size, 3, none⟩ = some (.bool b') ∧ w'.cell? ⟨w3.heap.size, 0, none⟩ = some (.int .i64 x) ∧ w'.cell? ⟨w3.heap.size, 1, none⟩ = some (.int .i64 y) ∧ w'.cell? ⟨w3.heap.size, 2, none⟩ = some (.bool o') ∧ w'.cell? ⟨w3.heap.size, 3, none⟩ = some (.bool b') ∧ w.heap.size < w3.heap.size ∧ w2.heap.size < w3.heap.size ∧ w3.heap.size < w'.heap.size ∧ Q w w') w') := Lib.hid (by
        intro a h
        refine (rmay_any f t o b a).mono ?_
        rintro e w' ⟨rfl, q'⟩
        rw [hm.out]
        exact ⟨rfl, KS.out a w' h q'⟩)
      have SN : Hid ((fun w' => w'.cell? ⟨w.heap.size, 0, none⟩ = some (.int .i64 f) ∧ w'.cell? ⟨w.heap.size, 1, none⟩ = some (.int .i64 t) ∧ w'.cell? ⟨w.heap.size, 2, none⟩ = some (.bool o) ∧ w'.cell? ⟨w.heap.size, 3, none⟩ = some (.bool b) ∧ w'.cell? ⟨w2.heap.size, 0, none⟩ = some (.int .i64 x) ∧ w'.cell? ⟨w2.heap.size, 1, none⟩ = some (.int .i64 y) ∧ w'.cell? ⟨w2.heap.size, 2, none⟩ = some (.bool o') ∧ w'.cell? ⟨w2.heap.size, 3, none⟩ = some (.bool b') ∧ w'.cell? ⟨w3.heap.size, 0, none⟩ = some (.int .i64 x) ∧ w'.cell? ⟨w3.heap.size, 1, none⟩ = some (.int .i64 y) ∧ w'.cell? ⟨w3.heap.size, 2, none⟩ = some (.bool o') ∧ w'.cell? ⟨w3.heap.size, 3, none⟩ = some (.bool b') ∧ w.heap.size < w3.heap.size ∧ w2.heap.size < w3.heap.size ∧ w3.heap.size < w'.heap.size ∧ Q w w') (w3.alloc (.cells #[.int .i64 x, .int .i64 y, .bool o', .bool b'] 23)).drew) := Lib.hid S0
      clear q0 S0 C1 C2 C3 P3 g1 g2 g3 g0
      refine wp_region_held_drew (S := (fun w' => w'.cell? ⟨w.heap.size, 0, none⟩ = some (.int .i64 f) ∧ w'.cell? ⟨w.heap.size, 1, none⟩ = some (.int .i64 t) ∧ w'.cell? ⟨w.heap.size, 2, none⟩ = some (.bool o) ∧ w'.cell? ⟨w.heap.size, 3, none⟩ = some (.bool b) ∧ w'.cell? ⟨w2.heap.size, 0, none⟩ = some (.int .i64 x) ∧ w'.cell? ⟨w2.heap.size, 1, none⟩ = some (.int .i64 y) ∧ w'.cell? ⟨w2.heap.size, 2, none⟩ = some (.bool o') ∧ w'.cell? ⟨w2.heap.size, 3, none⟩ = some (.bool b') ∧ w'.cell? ⟨w3.heap.size, 0, none⟩ = some (.int .i64 x) ∧ w'.cell? ⟨w3.heap.size, 1, none⟩ = some (.int .i64 y) ∧ w'.cell? ⟨w3.heap.size, 2, none⟩ = some (.bool o') ∧ w'.cell? ⟨w3.heap.size, 3, none⟩ = some (.bool b') ∧ w.heap.size < w3.heap.size ∧ w2.heap.size < w3.heap.size ∧ w3.heap.size < w'.heap.size ∧ Q w w')) (by kernel_rfl) SN.out (fun hHeld => ?_)
      refine wpAnyH_take (i := 0) (oi := _) (v := ?_) rfl (by kernel_rfl) (by kernel_rfl) (by kernel_rfl) (fun _ _ _ h => h) (Or.inl ⟨by rfl, ?_⟩) (by assumption) ?_
      rotate_left
      · (intro wx hSw; (try dsimp only at hSw); go_simp; (try with_reducible rfl))
      (try simp only [Act.put, List.getElem_toArray, List.getElem_cons_zero, List.getElem_cons_succ, List.setIfInBounds_toArray, List.set_cons_zero, List.set_cons_succ])
      refine wpAnyH_take (i := 2) (oi := _) (v := ?_) rfl (by kernel_rfl) (by kernel_rfl) (by kernel_rfl) (fun _ _ _ h => h) (Or.inl ⟨by rfl, ?_⟩) (by assumption) ?_
      rotate_left
      · (intro wx hSw; (try dsimp only at hSw); go_simp; (try with_reducible rfl))
      (try simp only [Act.put, List.getElem_toArray, List.getElem_cons_zero, List.getElem_cons_succ, List.setIfInBounds_toArray, List.set_cons_zero, List.set_cons_succ])
      refine wpAnyH_ready (rs := [1]) (by kernel_rfl) (by simp) ?_
      refine AllReadyH.cons (o := _) rfl (fun K hK => ?_) AllReadyH.nil
      go_simp
      go_at_call 14
      refine (M1.out _ (by assumption)).mono ?_
      rintro e w' ⟨rfl, hS⟩
      refine hK.out _ _ hS (fun hHeld => ?_)
      clear hK K
      (try simp only [Act.put, List.getElem_toArray, List.getElem_cons_zero, List.getElem_cons_succ, List.setIfInBounds_toArray, List.set_cons_zero, List.set_cons_succ])
      refine wpAnyH_ready (rs := [3]) (by kernel_rfl) (by simp) ?_
      refine AllReadyH.cons (o := _) rfl (fun K hK => ?_) AllReadyH.nil
      go_simp
      go_at_call 15
      refine (M2.out _ (by assumption)).mono ?_
      rintro e w' ⟨rfl, hS⟩
      refine hK.out _ _ hS (fun hHeld => ?_)
      clear hK K
      (try simp only [Act.put, List.getElem_toArray, List.getElem_cons_zero, List.getElem_cons_succ, List.setIfInBounds_toArray, List.set_cons_zero, List.set_cons_succ])
      refine wpAnyH_take (i := 4) (oi := _) (v := ?_) rfl (by kernel_rfl) (by kernel_rfl) (by kernel_rfl) (fun _ _ _ h => h) (Or.inl ⟨by rfl, ?_⟩) (by assumption) ?_
      rotate_left
      · (intro wx hSw; (try dsimp only at hSw); go_simp; (try with_reducible rfl))
      (try simp only [Act.put, List.getElem_toArray, List.getElem_cons_zero, List.getElem_cons_succ, List.setIfInBounds_toArray, List.set_cons_zero, List.set_cons_succ])
      refine wpAnyH_take (i := 5) (oi := _) (v := ?_) rfl (by kernel_rfl) (by kernel_rfl) (by kernel_rfl) (fun _ _ _ h => h) (Or.inl ⟨by rfl, ?_⟩) (by assumption) ?_
      rotate_left
      · (intro wx hSw; (try dsimp only at hSw); go_simp; (try with_reducible rfl))
      (try simp only [Act.put, List.getElem_toArray, List.getElem_cons_zero, List.getElem_cons_succ, List.setIfInBounds_toArray, List.set_cons_zero, List.set_cons_succ])
      refine wpAnyH_take (i := 6) (oi := _) (v := ?_) rfl (by kernel_rfl) (by kernel_rfl) (by kernel_rfl) (fun _ _ _ h => h) (Or.inl ⟨by rfl, ?_⟩) (by assumption) ?_
      rotate_left
      · (intro wx hSw; (try dsimp only at hSw); go_simp; (try with_reducible rfl))
      (try simp only [Act.put, List.getElem_toArray, List.getElem_cons_zero, List.getElem_cons_succ, List.setIfInBounds_toArray, List.set_cons_zero, List.set_cons_succ])
      refine wpAnyH_take (i := 7) (oi := _) (v := ?_) rfl (by kernel_rfl) (by kernel_rfl) (by kernel_rfl) (fun _ _ _ h => h) (Or.inl ⟨by rfl, ?_⟩) (by assumption) ?_
      rotate_left
      · (intro wx hSw; (try dsimp only at hSw); go_simp; (try with_reducible rfl))
      (try simp only [Act.put, List.getElem_toArray, List.getElem_cons_zero, List.getElem_cons_succ, List.setIfInBounds_toArray, List.set_cons_zero, List.set_cons_succ])
      refine wpAnyH_take (i := 8) (oi := _) (v := ?_) rfl (by kernel_rfl) (by kernel_rfl) (by kernel_rfl) (fun _ _ _ h => h) (Or.inl ⟨by rfl, ?_⟩) (by assumption) ?_
      rotate_left
      · (intro wx hSw; (try dsimp only at hSw); go_simp; (try with_reducible rfl))
      (try simp only [Act.put, List.getElem_toArray, List.getElem_cons_zero, List.getElem_cons_succ, List.setIfInBounds_toArray, List.set_cons_zero, List.set_cons_succ])
      refine wpAnyH_take (i := 9) (oi := _) (v := ?_) rfl (by kernel_rfl) (by kernel_rfl) (by kernel_rfl) (fun _ _ _ h => h) (Or.inl ⟨by rfl, ?_⟩) (by assumption) ?_
      rotate_left
      · (intro wx hSw; (try dsimp only at hSw); go_simp; (try with_reducible rfl))
      (try simp only [Act.put, List.getElem_toArray, List.getElem_cons_zero, List.getElem_cons_succ, List.setIfInBounds_toArray, List.set_cons_zero, List.set_cons_succ])
      refine wpAnyH_take (i := 10) (oi := _) (v := ?_) rfl (by kernel_rfl) (by kernel_rfl) (by kernel_rfl) (fun _ _ _ h => h) (Or.inl ⟨by rfl, ?_⟩) (by assumption) ?_
      rotate_left
      · (intro wx hSw; (try dsimp only at hSw); go_simp; (try with_reducible rfl))
      (try simp only [Act.put, List.getElem_toArray, List.getElem_cons_zero, List.getElem_cons_succ, List.setIfInBounds_toArray, List.set_cons_zero, List.set_cons_succ])
      refine wpAnyH_take (i := 11) (oi := _) (v := ?_) rfl (by kernel_rfl) (by kernel_rfl) (by kernel_rfl) (fun _ _ _ h => h) (Or.inl ⟨by rfl, ?_⟩) (by assumption) ?_
      rotate_left
      · (intro wx hSw; (try dsimp only at hSw); go_simp; (try with_reducible rfl))
      (try simp only [Act.put, List.getElem_toArray, List.getElem_cons_zero, List.getElem_cons_succ, List.setIfInBounds_toArray, List.set_cons_zero, List.set_cons_succ])
      refine wpAnyH_take (i := 12) (oi := _) (v := ?_) rfl (by kernel_rfl) (by kernel_rfl) (by kernel_rfl) (fun _ _ _ h => h) (Or.inl ⟨by rfl, ?_⟩) (by assumption) ?_
      rotate_left
      · (intro wx hSw; (try dsimp only at hSw); go_simp; (try with_reducible rfl))
      (try simp only [Act.put, List.getElem_toArray, List.getElem_cons_zero, List.getElem_cons_succ, List.setIfInBounds_toArray, List.set_cons_zero, List.set_cons_succ])
      refine wpAnyH_take (i := 13) (oi := _) (v := ?_) rfl (by kernel_rfl) (by kernel_rfl) (by kernel_rfl) (fun _ _ _ h => h) (Or.inl ⟨by rfl, ?_⟩) (by assumption) ?_
      rotate_left
      · (intro wx hSw; (try dsimp only at hSw); go_simp; (try with_reducible rfl))
      (try simp only [Act.put, List.getElem_toArray, List.getElem_cons_zero, List.getElem_cons_succ, List.setIfInBounds_toArray, List.set_cons_zero, List.set_cons_succ])
      refine wpAnyH_take (i := 14) (oi := _) (v := ?_) rfl (by kernel_rfl) (by kernel_rfl) (by kernel_rfl) (fun _ _ _ h => h) (Or.inl ⟨by rfl, ?_⟩) (by assumption) ?_
      rotate_left
      · (intro wx hSw; (try dsimp only at hSw); go_simp; (try with_reducible rfl))
      (try simp only [Act.put, List.getElem_toArray, List.getElem_cons_zero, List.getElem_cons_succ, List.setIfInBounds_toArray, List.set_cons_zero, List.set_cons_succ])
      refine wpAnyH_take (i := 15) (oi := _) (v := ?_) rfl (by kernel_rfl) (by kernel_rfl) (by kernel_rfl) (fun _ _ _ h => h) (Or.inl ⟨by rfl, ?_⟩) (by assumption) ?_
      rotate_left
      · (intro wx hSw; (try dsimp only at hSw); go_simp; (try with_reducible rfl))
      (try simp only [Act.put, List.getElem_toArray, List.getElem_cons_zero, List.getElem_cons_succ, List.setIfInBounds_toArray, List.set_cons_zero, List.set_cons_succ])
      refine wpAnyH_take (i := 16) (oi := _) (v := ?_) rfl (by kernel_rfl) (by kernel_rfl) (by kernel_rfl) (fun _ _ _ h => h) (Or.inl ⟨by rfl, ?_⟩) (by assumption) ?_
      rotate_left
      · (intro wx hSw; (try dsimp only at hSw); go_simp; (try with_reducible rfl))
      (try simp only [Act.put, List.getElem_toArray, List.getElem_cons_zero, List.getElem_cons_succ, List.setIfInBounds_toArray, List.set_cons_zero, List.set_cons_succ])
      refine wpAnyH_take (i := 17) (oi := _) (v := ?_) rfl (by kernel_rfl) (by kernel_rfl) (by kernel_rfl) (fun _ _ _ h => h) (Or.inl ⟨by rfl, ?_⟩) (by assumption) ?_
      rotate_left
      · (intro wx hSw; (try dsimp only at hSw); go_simp; (try with_reducible rfl))
      (try simp only [Act.put, List.getElem_toArray, List.getElem_cons_zero, List.getElem_cons_succ, List.setIfInBounds_toArray, List.set_cons_zero, List.set_cons_succ])
      refine wpAnyH_take (i := 18) (oi := _) (v := ?_) rfl (by kernel_rfl) (by kernel_rfl) (by kernel_rfl) (fun _ _ _ h => h) (Or.inl ⟨by rfl, ?_⟩) (by assumption) ?_
      rotate_left
      · (intro wx hSw; (try dsimp only at hSw); go_simp; (try with_reducible rfl))
      (try simp only [Act.put, List.getElem_toArray, List.getElem_cons_zero, List.getElem_cons_succ, List.setIfInBounds_toArray, List.set_cons_zero, List.set_cons_succ])
      refine wpAnyH_take (i := 19) (oi := _) (v := ?_) rfl (by kernel_rfl) (by kernel_rfl) (by kernel_rfl) (fun _ _ _ h => h) (Or.inl ⟨by rfl, ?_⟩) (by assumption) ?_
      rotate_left
      · (intro wx hSw; (try dsimp only at hSw); go_simp; (try with_reducible rfl))
      (try simp only [Act.put, List.getElem_toArray, List.getElem_cons_zero, List.getElem_cons_succ, List.setIfInBounds_toArray, List.set_cons_zero, List.set_cons_succ])
      refine wpAnyH_take (i := 20) (oi := _) (v := undef) rfl (by kernel_rfl) (by kernel_rfl) (by kernel_rfl) (fun _ _ _ h => h) (Or.inr ⟨by rfl, rfl⟩) (by assumption) ?_
      (try simp only [Act.put, List.getElem_toArray, List.getElem_cons_zero, List.getElem_cons_succ, List.setIfInBounds_toArray, List.set_cons_zero, List.set_cons_succ])
      refine wpAnyH_take (i := 21) (oi := _) (v := undef) rfl (by kernel_rfl) (by kernel_rfl) (by kernel_rfl) (fun _ _ _ h => h) (Or.inr ⟨by rfl, rfl⟩) (by assumption) ?_
      (try simp only [Act.put, List.getElem_toArray, List.getElem_cons_zero, List.getElem_cons_succ, List.setIfInBounds_toArray, List.set_cons_zero, List.set_cons_succ])
      refine wpAnyH_take (i := 22) (oi := _) (v := ?_) rfl (by kernel_rfl) (by kernel_rfl) (by kernel_rfl) (fun _ _ _ h => h) (Or.inl ⟨by rfl, ?_⟩) (by assumption) ?_
      rotate_left
      · (intro wx hSw; (try dsimp only at hSw); go_simp; (try with_reducible rfl))
      (try simp only [Act.put, List.getElem_toArray, List.getElem_cons_zero, List.getElem_cons_succ, List.setIfInBounds_toArray, List.set_cons_zero, List.set_cons_succ])
      refine wpAnyH_take (i := 23) (oi := _) (v := ?_) rfl (by kernel_rfl) (by kernel_rfl) (by kernel_rfl) (fun _ _ _ h => h) (Or.inl ⟨by rfl, ?_⟩) (by assumption) ?_
      rotate_left
      · (intro wx hSw; (try dsimp only at hSw); go_simp; (try with_reducible rfl))
      (try simp only [Act.put, List.getElem_toArray, List.getElem_cons_zero, List.getElem_cons_succ, List.setIfInBounds_toArray, List.set_cons_zero, List.set_cons_succ])
      refine wpAnyH_done (by kernel_rfl) ?_ _
      obtain ⟨c0, c1, c2, c3, p0, p1, p2, p3, r0, r1, r2, r3, z1, z2, z3, q⟩ := hS
      clear KS SN M1 M2 p0 p1 p2 p3 r0 r1 r2 r3
      go_wp2_with fail
      refine (M3.out _).mono ?_
      rintro e w6 ⟨rfl, q6⟩
      go_wp2_with fail
      refine (awake_any _).mono ?_
      rintro e w9 ⟨rfl, q9⟩
      go_wp2
      go_ret
      exact ⟨rfl, ((q.trans q6)).trans q9⟩
  | true =>
    obtain ⟨f, t, rfl, rfl, hf, ht⟩ := may_nat hm0
    have hm := Lib.hid hm0
    have M3 := Lib.hid fun w => rmay_any f t o b w
    rw [hm.out] at M3
    have T := Lib.hid fun w => text_yes f t o b w hm0
    have RT := Lib.hid fun w => rtext_yes f t o b w hm0
    have hz := txt_size (o := o) (b := b) hf ht
    have P2 := Lib.hid fun w => parse_any (mk (txtP f t o b)) w (by omega)
    rw [bl_mk, psd_txt hm0] at P2
    simp only [parV, spn] at P2
    clear hm0
    obtain ⟨A, hA⟩ : ∃ A, A = mk (txtP f t o b) := ⟨_, rfl⟩
    rw [← hA] at T RT hz P2
    clear hA
    cases hp : psd (bl D) with
    | none =>
      rw [hp] at P R
      simp only [parV, rparV, spn] at P R
      clear hp
      rw [spn] at T M3 RT ⊢
      go_enter Try.func3, Try.ntmps3
      go_wp2_with fail
      refine (FF.out _).mono ?_
      rintro e w0 ⟨rfl, rfl⟩
      go_wp2_with fail
      refine (T.out _).mono ?_
      rintro e w1 ⟨rfl, q1⟩
      have C1 := cells_of q1
      have g1 : w.heap.size < w1.heap.size := by have := q1.size; simp at this; omega
      go_wp2_with fail
      refine (P.out _).mono ?_
      rintro e w2 ⟨rfl, q2⟩
      have C2 := Cells.on C1 g1 q2
      have g2 := Nat.lt_of_lt_of_le g1 q2.size
      go_wp2_with fail
      refine (R.out _).mono ?_
      rintro e w3 ⟨rfl, q3⟩
      have C3 := Cells.on C2 g2 (((Q.refl w2).alloc _).trans q3)
      have P3 := cells_of q3
      have g3 : w2.heap.size < w3.heap.size := by have := q3.size; simp at this; omega
      have g0 : w.heap.size < w3.heap.size := by omega
      have q0 := ((((((Q.refl w).alloc _).trans q1).trans q2).alloc _).trans q3)
      go_wp2_with fail
      have S0 : (fun w' => w'.cell? ⟨w.heap.size, 0, none⟩ = some (.int .i64 f) ∧ w'.cell? ⟨w.heap.size, 1, none⟩ = some (.int .i64 t) ∧ w'.cell? ⟨w.heap.size, 2, none⟩ = some (.bool o) ∧ w'.cell? ⟨w.heap.size, 3, none⟩ = some (.bool b) ∧ w'.cell? ⟨w2.heap.size, 0, none⟩ = some (.int .i64 0) ∧ w'.cell? ⟨w2.heap.size, 1, none⟩ = some (.int .i64 0) ∧ w'.cell? ⟨w2.heap.size, 2, none⟩ = some (.bool false) ∧ w'.cell? ⟨w2.heap.size, 3, none⟩ = some (.bool false) ∧ w'.cell? ⟨w3.heap.size, 0, none⟩ = some (.int .i64 0) ∧ w'.cell? ⟨w3.heap.size, 1, none⟩ = some (.int .i64 0) ∧ w'.cell? ⟨w3.heap.size, 2, none⟩ = some (.bool false) ∧ w'.cell? ⟨w3.heap.size, 3, none⟩ = some (.bool false) ∧ w.heap.size < w3.heap.size ∧ w2.heap.size < w3.heap.size ∧ w3.heap.size < w'.heap.size ∧ Q w w') (w3.alloc (.cells #[.int .i64 0, .int .i64 0, .bool false, .bool false] 23)).drew := by
        obtain ⟨c0, c1, c2, c3⟩ := Cells.on C3 g0 ((Q.refl w3).alloc (.cells #[.int .i64 0, .int .i64 0, .bool false, .bool false] 23)).drew
        obtain ⟨p0, p1, p2, p3⟩ := Cells.on P3 g3 ((Q.refl w3).alloc (.cells #[.int .i64 0, .int .i64 0, .bool false, .bool false] 23)).drew
        obtain ⟨r0, r1, r2, r3⟩ := cells_of (w := w3) (w1 := (w3.alloc (.cells #[.int .i64 0, .int .i64 0, .bool false, .bool false] 23)).drew) (Q.refl _).drew
        exact ⟨c0, c1, c2, c3, p0, p1, p2, p3, r0, r1, r2, r3, g0, g3, by simp, (q0.alloc _).drew⟩
      have KS : Hid (∀ a c, (fun w' => w'.cell? ⟨w.heap.size, 0, none⟩ = some (.int .i64 f) ∧ w'.cell? ⟨w.heap.size, 1, none⟩ = some (.int .i64 t) ∧ w'.cell? ⟨w.heap.size, 2, none⟩ = some (.bool o) ∧ w'.cell? ⟨w.heap.size, 3, none⟩ = some (.bool b) ∧ w'.cell? ⟨w2.heap.size, 0, none⟩ = some (.int .i64 0) ∧ w'.cell? ⟨w2.heap.size, 1, none⟩ = some (.int .i64 0) ∧ w'.cell? ⟨w2.heap.size, 2, none⟩ = some (.bool false) ∧ w'.cell? ⟨w2.heap.size, 3, none⟩ = some (.bool false) ∧ w'.cell? ⟨w3.heap.size, 0, none⟩ = some (.int .i64 0) ∧ w'.cell? ⟨w3.heap.size, 1, none⟩ = some (.int .i64 0) ∧ w'.cell? ⟨w3.heap.size, 2, none⟩ = some (.bool false) ∧ w'.cell? ⟨w3.heap.size, 3, none⟩ = some (.bool false) ∧ w.heap.size < w3.heap.size ∧ w2.heap.size < w3.heap.size ∧ w3.heap.size < w'.heap.size ∧ Q w w') a → Q a c → (fun w' => w'.cell? ⟨w.heap.size, 0, none⟩ = some (.int .i64 f) ∧ w'.cell? ⟨w.heap.size, 1, none⟩ = some (.int .i64 t) ∧ w'.cell? ⟨w.heap.size, 2, none⟩ = some (.bool o) ∧ w'.cell? ⟨w.heap.size, 3, none⟩ = some (.bool b) ∧ w'.cell? ⟨w2.heap.size, 0, none⟩ = some (.int .i64 0) ∧ w'.cell? ⟨w2.heap.size, 1, none⟩ = some (.int .i64 0) ∧ w'.cell? ⟨w2.heap.size, 2, none⟩ = some (.bool false) ∧ w'.cell? ⟨w2.heap.size, 3, none⟩ = some (.bool false) ∧ w'.cell? ⟨w3.heap.size, 0, none⟩ = some (.int .i64 0) ∧ w'.cell? ⟨w3.heap.size, 1, none⟩ = some (.int .i64 0) ∧ w'.cell? ⟨w3.heap.size, 2, none⟩ = some (.bool false) ∧ w'.cell? ⟨w3.heap.size, 3, none⟩ = some (.bool false) ∧ w.heap.size < w3.heap.size ∧ w2.heap.size < w3.heap.size ∧ w3.heap.size < w'.heap.size ∧ Q w w') c) := Lib.hid (by
        intro a c h q'
        obtain ⟨c0, c1, c2, c3, p0, p1, p2, p3, r0, r1, r2, r3, z1, z2, z3, q⟩ := h
        obtain ⟨c0, c1, c2, c3⟩ := Cells.on ⟨c0, c1, c2, c3⟩ (by omega) q'
        obtain ⟨p0, p1, p2, p3⟩ := Cells.on ⟨p0, p1, p2, p3⟩ (by omega) q'
        obtain ⟨r0, r1, r2, r3⟩ := Cells.on ⟨r0, r1, r2, r3⟩ (by omega) q'
        exact ⟨c0, c1, c2, c3, p0, p1, p2, p3, r0, r1, r2, r3, z1, z2, Nat.lt_of_lt_of_le z3 q'.size, q.trans q'⟩)
      have M1 : Hid (∀ a, (fun w' => w'.cell? ⟨w.heap.size, 0, none⟩ = some (.int .i64 f) ∧ w'.cell? ⟨w.heap.size, 1, none⟩ = some (.int .i64 t) ∧ w'.cell? ⟨w.heap.size, 2, none⟩ = some (.bool o) ∧ w'.cell? ⟨w.heap.size, 3, none⟩ = some (.bool b) ∧ w'.cell? ⟨w2.heap.size, 0, none⟩ = some (.int .i64 0) ∧ w'.cell? ⟨w2.heap.size, 1, none⟩ = some (.int .i64 0) ∧ w'.cell? ⟨w2.heap.size, 2, none⟩ = some (.bool false) ∧ w'.cell? ⟨w2.heap.size, 3, none⟩ = some (.bool false) ∧ w'.cell? ⟨w3.heap.size, 0, none⟩ = some (.int .i64 0) ∧ w'.cell? ⟨w3.heap.size, 1, none⟩ = some (.int .i64 0) ∧ w'.cell? ⟨w3.heap.size, 2, none⟩ = some (.bool false) ∧ w'.cell? ⟨w3.heap.size, 3, none⟩ = some (.bool false) ∧ w.heap.size < w3.heap.size ∧ w2.heap.size < w3.heap.size ∧ w3.heap.size < w'.heap.size ∧ Q w w') a → Calls Try.prog 14 #[.agg #[.int .i64 f, .int .i64 t, .bool o, .bool b]] a fun e w' => e = .returned (.bool true) ∧ (fun w' => w'.cell? ⟨w.heap.size, 0, none⟩ = some (.int .i64 f) ∧ w'.cell? ⟨w.heap.size, 1, none⟩ = some (.int .i64 t) ∧ w'.cell? ⟨w.heap.size, 2, none⟩ = some (.bool o) ∧ w'.cell? ⟨w.heap.size, 3, none⟩ = some (.bool b) ∧ w'.cell? ⟨w2.heap.size, 0, none⟩ = some (.int .i64 0) ∧ w'.cell? ⟨w2.heap.size, 1, none⟩ = some (.int .i64 0) ∧ w'.cell? ⟨w2.heap.size, 2, none⟩ = some (.bool false) ∧ w'.cell? ⟨w2.heap.size, 3, none⟩ = some (.bool false) ∧ w'.cell? ⟨w3.heap.size, 0, none⟩ = some (.int .i64 0) ∧ w'.cell? ⟨w3.heap.size, 1, none⟩ = some (.int .i64 0) ∧ w'.cell? ⟨w3.heap.size, 2, none⟩ = some (.bool false) ∧ w'.cell? ⟨w3.heap.size, 3, none⟩ = some (.bool false) ∧ w.heap.size < w3.heap.size ∧ w2.heap.size < w3.heap.size ∧ w3.heap.size < w'.heap.size ∧ Q w w') w') := Lib.hid (by
        intro a h
        refine (may_any f t o b a).mono ?_
        rintro e w' ⟨rfl, q'⟩
        rw [hm.out]
        exact ⟨rfl, KS.out a w' h q'⟩)
      have M2 : Hid (∀ a, (fun w' => w'.cell? ⟨w.heap.size, 0, none⟩ = some (.int .i64 f) ∧ w'.cell? ⟨w.heap.size, 1, none⟩ = some (.int .i64 t) ∧ w'.cell? ⟨w.heap.size, 2, none⟩ = some (.bool o) ∧ w'.cell? ⟨w.heap.size, 3, none⟩ = some (.bool b) ∧ w'.cell? ⟨w2.heap.size, 0, none⟩ = some (.int .i64 0) ∧ w'.cell? ⟨w2.heap.size, 1, none⟩ = some (.int .i64 0) ∧ w'.cell? ⟨w2.heap.size, 2, none⟩ = some (.bool false) ∧ w'.cell? ⟨w2.heap.size, 3, none⟩ = some (.bool false) ∧ w'.cell? ⟨w3.heap.size, 0, none⟩ = some (.int .i64 0) ∧ w'.cell? ⟨w3.heap.size, 1, none⟩ = some (.int .i64 0) ∧ w'.cell? ⟨w3.heap.size, 2, none⟩ = some (.bool false) ∧ w'.cell? ⟨w3.heap.size, 3, none⟩ = some (.bool false) ∧ w.heap.size < w3.heap.size ∧ w2.heap.size < w3.heap.size ∧ w3.heap.size < w'.heap.size ∧ Q w w') a → Calls Try.prog 15 #[.agg #[.int .i64 f, .int .i64 t, .bool o, .bool b]] a fun e w' => e = .returned (.bool true) ∧ (fun w' => w'.cell? ⟨w.heap.size, 0, none⟩ = some (.int .i64 f) ∧ w'.cell? ⟨w.heap.size, 1, none⟩ = some (.int .i64 t) ∧ w'.cell? ⟨w.heap.size, 2, none⟩ = some (.bool o) ∧ w'.cell? ⟨w.heap.size, 3, none⟩ = some (.bool b) ∧ w'.cell? ⟨w2.heap.size, 0, none⟩ = some (.int .i64 0) ∧ w'.cell? ⟨w2.heap.size, 1, none⟩ = some (.int .i64 0) ∧ w'.cell? ⟨w2.heap.size, 2, none⟩ = some (.bool false) ∧ w'.cell? ⟨w2.heap.size, 3, none⟩ = some (.bool false) ∧ w'.cell? ⟨w3.heap.size, 0, none⟩ = some (.int .i64 0) ∧ w'.cell? ⟨w3.heap.size, 1, none⟩ = some (.int .i64 0) ∧ w'.cell? ⟨w3.heap.size, 2, none⟩ = some (.bool false) ∧ w'.cell? ⟨w3.heap.size, 3, none⟩ = some (.bool false) ∧ w.heap.size < w3.heap.size ∧ w2.heap.size < w3.heap.size ∧ w3.heap.size < w'.heap.size ∧ Q w w') w') := Lib.hid (by
        intro a h
        refine (rmay_any f t o b a).mono ?_
        rintro e w' ⟨rfl, q'⟩
        rw [hm.out]
        exact ⟨rfl, KS.out a w' h q'⟩)
      have SN : Hid ((fun w' => w'.cell? ⟨w.heap.size, 0, none⟩ = some (.int .i64 f) ∧ w'.cell? ⟨w.heap.size, 1, none⟩ = some (.int .i64 t) ∧ w'.cell? ⟨w.heap.size, 2, none⟩ = some (.bool o) ∧ w'.cell? ⟨w.heap.size, 3, none⟩ = some (.bool b) ∧ w'.cell? ⟨w2.heap.size, 0, none⟩ = some (.int .i64 0) ∧ w'.cell? ⟨w2.heap.size, 1, none⟩ = some (.int .i64 0) ∧ w'.cell? ⟨w2.heap.size, 2, none⟩ = some (.bool false) ∧ w'.cell? ⟨w2.heap.size, 3, none⟩ = some (.bool false) ∧ w'.cell? ⟨w3.heap.size, 0, none⟩ = some (.int .i64 0) ∧ w'.cell? ⟨w3.heap.size, 1, none⟩ = some (.int .i64 0) ∧ w'.cell? ⟨w3.heap.size, 2, none⟩ = some (.bool false) ∧ w'.cell? ⟨w3.heap.size, 3, none⟩ = some (.bool false) ∧ w.heap.size < w3.heap.size ∧ w2.heap.size < w3.heap.size ∧ w3.heap.size < w'.heap.size ∧ Q w w') (w3.alloc (.cells #[.int .i64 0, .int .i64 0, .bool false, .bool false] 23)).drew) := Lib.hid S0
      clear q0 S0 C1 C2 C3 P3 g1 g2 g3 g0
      go_region_held3 (fun w' => w'.cell? ⟨w.heap.size, 0, none⟩ = some (.int .i64 f) ∧ w'.cell? ⟨w.heap.size, 1, none⟩ = some (.int .i64 t) ∧ w'.cell? ⟨w.heap.size, 2, none⟩ = some (.bool o) ∧ w'.cell? ⟨w.heap.size, 3, none⟩ = some (.bool b) ∧ w'.cell? ⟨w2.heap.size, 0, none⟩ = some (.int .i64 0) ∧ w'.cell? ⟨w2.heap.size, 1, none⟩ = some (.int .i64 0) ∧ w'.cell? ⟨w2.heap.size, 2, none⟩ = some (.bool false) ∧ w'.cell? ⟨w2.heap.size, 3, none⟩ = some (.bool false) ∧ w'.cell? ⟨w3.heap.size, 0, none⟩ = some (.int .i64 0) ∧ w'.cell? ⟨w3.heap.size, 1, none⟩ = some (.int .i64 0) ∧ w'.cell? ⟨w3.heap.size, 2, none⟩ = some (.bool false) ∧ w'.cell? ⟨w3.heap.size, 3, none⟩ = some (.bool false) ∧ w.heap.size < w3.heap.size ∧ w2.heap.size < w3.heap.size ∧ w3.heap.size < w'.heap.size ∧ Q w w') (first | exact SN.out | assumption) (first | (go_at_call 14; refine (M1.out _ (by assumption)).mono ?_; rintro e w' ⟨rfl, hS⟩) | (go_at_call 15; refine (M2.out _ (by assumption)).mono ?_; rintro e w' ⟨rfl, hS⟩))
      obtain ⟨c0, c1, c2, c3, p0, p1, p2, p3, r0, r1, r2, r3, z1, z2, z3, q⟩ := hS
      clear KS SN M1 M2 p0 p1 p2 p3 r0 r1 r2 r3
      go_wp2_with fail
      refine (M3.out _).mono ?_
      rintro e w6 ⟨rfl, q6⟩
      have g5 : w.heap.size < w'.heap.size := by omega
      have C6 := Cells.on ⟨c0, c1, c2, c3⟩ g5 q6
      have g6 := Nat.lt_of_lt_of_le g5 q6.size
      clear c0 c1 c2 c3
      go_wp2_with fail
      refine (P2.out _).mono ?_
      rintro e w7 ⟨rfl, q7⟩
      have C7 := Cells.on C6 g6 q7
      have g7 := Nat.lt_of_lt_of_le g6 q7.size
      obtain ⟨c0, c1, c2, c3⟩ := C7
      go_wp2_with fail
      refine (RT.out _).mono ?_
      rintro e w8 ⟨rfl, q8⟩
      have C8 := Cells.on ⟨c0, c1, c2, c3⟩ g7 (((Q.refl w7).alloc _).trans q8)
      obtain ⟨x0, x1, x2, x3⟩ := cells_of q8
      clear c0 c1 c2 c3
      obtain ⟨c0, c1, c2, c3⟩ := C8
      go_wp2_with fail
      refine (awake_any _).mono ?_
      rintro e w9 ⟨rfl, q9⟩
      go_wp2
      go_ret
      exact ⟨rfl, (((((q.trans q6).trans q7).alloc _).trans q8)).trans q9⟩
    | some v =>
      obtain ⟨x, y, o', b'⟩ := v
      rw [hp] at P R
      simp only [parV, rparV, spn] at P R
      clear hp
      rw [spn] at T M3 RT ⊢
      go_enter Try.func3, Try.ntmps3
      go_wp2_with fail
      refine (FF.out _).mono ?_
      rintro e w0 ⟨rfl, rfl⟩
      go_wp2_with fail
      refine (T.out _).mono ?_
      rintro e w1 ⟨rfl, q1⟩
      have C1 := cells_of q1
      have g1 : w.heap.size < w1.heap.size := by have := q1.size; simp at this; omega
      go_wp2_with fail
      refine (P.out _).mono ?_
      rintro e w2 ⟨rfl, q2⟩
      have C2 := Cells.on C1 g1 q2
      have g2 := Nat.lt_of_lt_of_le g1 q2.size
      go_wp2_with fail
      refine (R.out _).mono ?_
      rintro e w3 ⟨rfl, q3⟩
      have C3 := Cells.on C2 g2 (((Q.refl w2).alloc _).trans q3)
      have P3 := cells_of q3
      have g3 : w2.heap.size < w3.heap.size := by have := q3.size; simp at this; omega
      have g0 : w.heap.size < w3.heap.size := by omega
      have q0 := ((((((Q.refl w).alloc _).trans q1).trans q2).alloc _).trans q3)
      go_wp2_with fail
      have S0 : (fun w' => w'.cell? ⟨w.heap.size, 0, none⟩ = some (.int .i64 f) ∧ w'.cell? ⟨w.heap.size, 1, none⟩ = some (.int .i64 t) ∧ w'.cell? ⟨w.heap.size, 2, none⟩ = some (.bool o) ∧ w'.cell? ⟨w.heap.size, 3, none⟩ = some (.bool b) ∧ w'.cell? ⟨w2.heap.size, 0, none⟩ = some (.int .i64 x) ∧ w'.cell? ⟨w2.heap.size, 1, none⟩ = some (.int .i64 y) ∧ w'.cell? ⟨w2.heap.size, 2, none⟩ = some (.bool o') ∧ w'.cell? ⟨w2.heap.size, 3, none⟩ = some (.bool b') ∧ w'.cell? ⟨w3.heap.size, 0, none⟩ = some (.int .i64 x) ∧ w'.cell? ⟨w3.heap.size, 1, none⟩ = some (.int .i64 y) ∧ w'.cell? ⟨w3.heap.size, 2, none⟩ = some (.bool o') ∧ w'.cell? ⟨w3.heap.size, 3, none⟩ = some (.bool b') ∧ w.heap.size < w3.heap.size ∧ w2.heap.size < w3.heap.size ∧ w3.heap.size < w'.heap.size ∧ Q w w') (w3.alloc (.cells #[.int .i64 x, .int .i64 y, .bool o', .bool b'] 23)).drew := by
        obtain ⟨c0, c1, c2, c3⟩ := Cells.on C3 g0 ((Q.refl w3).alloc (.cells #[.int .i64 x, .int .i64 y, .bool o', .bool b'] 23)).drew
        obtain ⟨p0, p1, p2, p3⟩ := Cells.on P3 g3 ((Q.refl w3).alloc (.cells #[.int .i64 x, .int .i64 y, .bool o', .bool b'] 23)).drew
        obtain ⟨r0, r1, r2, r3⟩ := cells_of (w := w3) (w1 := (w3.alloc (.cells #[.int .i64 x, .int .i64 y, .bool o', .bool b'] 23)).drew) (Q.refl _).drew
        exact ⟨c0, c1, c2, c3, p0, p1, p2, p3, r0, r1, r2, r3, g0, g3, by simp, (q0.alloc _).drew⟩
      have KS : Hid (∀ a c, (fun w' => w'.cell? ⟨w.heap.size, 0, none⟩ = some (.int .i64 f) ∧ w'.cell? ⟨w.heap.size, 1, none⟩ = some (.int .i64 t) ∧ w'.cell? ⟨w.heap.size, 2, none⟩ = some (.bool o) ∧ w'.cell? ⟨w.heap.size, 3, none⟩ = some (.bool b) ∧ w'.cell? ⟨w2.heap.size, 0, none⟩ = some (.int .i64 x) ∧ w'.cell? ⟨w2.heap.size, 1, none⟩ = some (.int .i64 y) ∧ w'.cell? ⟨w2.heap.size, 2, none⟩ = some (.bool o') ∧ w'.cell? ⟨w2.heap.size, 3, none⟩ = some (.bool b') ∧ w'.cell? ⟨w3.heap.size, 0, none⟩ = some (.int .i64 x) ∧ w'.cell? ⟨w3.heap.size, 1, none⟩ = some (.int .i64 y) ∧ w'.cell? ⟨w3.heap.size, 2, none⟩ = some (.bool o') ∧ w'.cell? ⟨w3.heap.size, 3, none⟩ = some (.bool b') ∧ w.heap.size < w3.heap.size ∧ w2.heap.size < w3.heap.size ∧ w3.heap.size < w'.heap.size ∧ Q w w') a → Q a c → (fun w' => w'.cell? ⟨w.heap.size, 0, none⟩ = some (.int .i64 f) ∧ w'.cell? ⟨w.heap.size, 1, none⟩ = some (.int .i64 t) ∧ w'.cell? ⟨w.heap.size, 2, none⟩ = some (.bool o) ∧ w'.cell? ⟨w.heap.size, 3, none⟩ = some (.bool b) ∧ w'.cell? ⟨w2.heap.size, 0, none⟩ = some (.int .i64 x) ∧ w'.cell? ⟨w2.heap.size, 1, none⟩ = some (.int .i64 y) ∧ w'.cell? ⟨w2.heap.size, 2, none⟩ = some (.bool o') ∧ w'.cell? ⟨w2.heap.size, 3, none⟩ = some (.bool b') ∧ w'.cell? ⟨w3.heap.size, 0, none⟩ = some (.int .i64 x) ∧ w'.cell? ⟨w3.heap.size, 1, none⟩ = some (.int .i64 y) ∧ w'.cell? ⟨w3.heap.size, 2, none⟩ = some (.bool o') ∧ w'.cell? ⟨w3.heap.size, 3, none⟩ = some (.bool b') ∧ w.heap.size < w3.heap.size ∧ w2.heap.size < w3.heap.size ∧ w3.heap.size < w'.heap.size ∧ Q w w') c) := Lib.hid (by
        intro a c h q'
        obtain ⟨c0, c1, c2, c3, p0, p1, p2, p3, r0, r1, r2, r3, z1, z2, z3, q⟩ := h
        obtain ⟨c0, c1, c2, c3⟩ := Cells.on ⟨c0, c1, c2, c3⟩ (by omega) q'
        obtain ⟨p0, p1, p2, p3⟩ := Cells.on ⟨p0, p1, p2, p3⟩ (by omega) q'
        obtain ⟨r0, r1, r2, r3⟩ := Cells.on ⟨r0, r1, r2, r3⟩ (by omega) q'
        exact ⟨c0, c1, c2, c3, p0, p1, p2, p3, r0, r1, r2, r3, z1, z2, Nat.lt_of_lt_of_le z3 q'.size, q.trans q'⟩)
      have M1 : Hid (∀ a, (fun w' => w'.cell? ⟨w.heap.size, 0, none⟩ = some (.int .i64 f) ∧ w'.cell? ⟨w.heap.size, 1, none⟩ = some (.int .i64 t) ∧ w'.cell? ⟨w.heap.size, 2, none⟩ = some (.bool o) ∧ w'.cell? ⟨w.heap.size, 3, none⟩ = some (.bool b) ∧ w'.cell? ⟨w2.heap.size, 0, none⟩ = some (.int .i64 x) ∧ w'.cell? ⟨w2.heap.size, 1, none⟩ = some (.int .i64 y) ∧ w'.cell? ⟨w2.heap.size, 2, none⟩ = some (.bool o') ∧ w'.cell? ⟨w2.heap.size, 3, none⟩ = some (.bool b') ∧ w'.cell? ⟨w3.heap.size, 0, none⟩ = some (.int .i64 x) ∧ w'.cell? ⟨w3.heap.size, 1, none⟩ = some (.int .i64 y) ∧ w'.cell? ⟨w3.heap.size, 2, none⟩ = some (.bool o') ∧ w'.cell? ⟨w3.heap.size, 3, none⟩ = some (.bool b') ∧ w.heap.size < w3.heap.size ∧ w2.heap.size < w3.heap.size ∧ w3.heap.size < w'.heap.size ∧ Q w w') a → Calls Try.prog 14 #[.agg #[.int .i64 f, .int .i64 t, .bool o, .bool b]] a fun e w' => e = .returned (.bool true) ∧ (fun w' => w'.cell? ⟨w.heap.size, 0, none⟩ = some (.int .i64 f) ∧ w'.cell? ⟨w.heap.size, 1, none⟩ = some (.int .i64 t) ∧ w'.cell? ⟨w.heap.size, 2, none⟩ = some (.bool o) ∧ w'.cell? ⟨w.heap.size, 3, none⟩ = some (.bool b) ∧ w'.cell? ⟨w2.heap.size, 0, none⟩ = some (.int .i64 x) ∧ w'.cell? ⟨w2.heap.size, 1, none⟩ = some (.int .i64 y) ∧ w'.cell? ⟨w2.heap.size, 2, none⟩ = some (.bool o') ∧ w'.cell? ⟨w2.heap.size, 3, none⟩ = some (.bool b') ∧ w'.cell? ⟨w3.heap.size, 0, none⟩ = some (.int .i64 x) ∧ w'.cell? ⟨w3.heap.size, 1, none⟩ = some (.int .i64 y) ∧ w'.cell? ⟨w3.heap.size, 2, none⟩ = some (.bool o') ∧ w'.cell? ⟨w3.heap.size, 3, none⟩ = some (.bool b') ∧ w.heap.size < w3.heap.size ∧ w2.heap.size < w3.heap.size ∧ w3.heap.size < w'.heap.size ∧ Q w w') w') := Lib.hid (by
        intro a h
        refine (may_any f t o b a).mono ?_
        rintro e w' ⟨rfl, q'⟩
        rw [hm.out]
        exact ⟨rfl, KS.out a w' h q'⟩)
      have M2 : Hid (∀ a, (fun w' => w'.cell? ⟨w.heap.size, 0, none⟩ = some (.int .i64 f) ∧ w'.cell? ⟨w.heap.size, 1, none⟩ = some (.int .i64 t) ∧ w'.cell? ⟨w.heap.size, 2, none⟩ = some (.bool o) ∧ w'.cell? ⟨w.heap.size, 3, none⟩ = some (.bool b) ∧ w'.cell? ⟨w2.heap.size, 0, none⟩ = some (.int .i64 x) ∧ w'.cell? ⟨w2.heap.size, 1, none⟩ = some (.int .i64 y) ∧ w'.cell? ⟨w2.heap.size, 2, none⟩ = some (.bool o') ∧ w'.cell? ⟨w2.heap.size, 3, none⟩ = some (.bool b') ∧ w'.cell? ⟨w3.heap.size, 0, none⟩ = some (.int .i64 x) ∧ w'.cell? ⟨w3.heap.size, 1, none⟩ = some (.int .i64 y) ∧ w'.cell? ⟨w3.heap.size, 2, none⟩ = some (.bool o') ∧ w'.cell? ⟨w3.heap.size, 3, none⟩ = some (.bool b') ∧ w.heap.size < w3.heap.size ∧ w2.heap.size < w3.heap.size ∧ w3.heap.size < w'.heap.size ∧ Q w w') a → Calls Try.prog 15 #[.agg #[.int .i64 f, .int .i64 t, .bool o, .bool b]] a fun e w' => e = .returned (.bool true) ∧ (fun w' => w'.cell? ⟨w.heap.size, 0, none⟩ = some (.int .i64 f) ∧ w'.cell? ⟨w.heap.size, 1, none⟩ = some (.int .i64 t) ∧ w'.cell? ⟨w.heap.size, 2, none⟩ = some (.bool o) ∧ w'.cell? ⟨w.heap.size, 3, none⟩ = some (.bool b) ∧ w'.cell? ⟨w2.heap.size, 0, none⟩ = some (.int .i64 x) ∧ w'.cell? ⟨w2.heap.size, 1, none⟩ = some (.int .i64 y) ∧ w'.cell? ⟨w2.heap.size, 2, none⟩ = some (.bool o') ∧ w'.cell? ⟨w2.heap.size, 3, none⟩ = some (.bool b') ∧ w'.cell? ⟨w3.heap.size, 0, none⟩ = some (.int .i64 x) ∧ w'.cell? ⟨w3.heap.size, 1, none⟩ = some (.int .i64 y) ∧ w'.cell? ⟨w3.heap.size, 2, none⟩ = some (.bool o') ∧ w'.cell? ⟨w3.heap.size, 3, none⟩ = some (.bool b') ∧ w.heap.size < w3.heap.size ∧ w2.heap.size < w3.heap.size ∧ w3.heap.size < w'.heap.size ∧ Q w w') w') := Lib.hid (by
        intro a h
        refine (rmay_any f t o b a).mono ?_
        rintro e w' ⟨rfl, q'⟩
        rw [hm.out]
        exact ⟨rfl, KS.out a w' h q'⟩)
      have SN : Hid ((fun w' => w'.cell? ⟨w.heap.size, 0, none⟩ = some (.int .i64 f) ∧ w'.cell? ⟨w.heap.size, 1, none⟩ = some (.int .i64 t) ∧ w'.cell? ⟨w.heap.size, 2, none⟩ = some (.bool o) ∧ w'.cell? ⟨w.heap.size, 3, none⟩ = some (.bool b) ∧ w'.cell? ⟨w2.heap.size, 0, none⟩ = some (.int .i64 x) ∧ w'.cell? ⟨w2.heap.size, 1, none⟩ = some (.int .i64 y) ∧ w'.cell? ⟨w2.heap.size, 2, none⟩ = some (.bool o') ∧ w'.cell? ⟨w2.heap.size, 3, none⟩ = some (.bool b') ∧ w'.cell? ⟨w3.heap.size, 0, none⟩ = some (.int .i64 x) ∧ w'.cell? ⟨w3.heap.size, 1, none⟩ = some (.int .i64 y) ∧ w'.cell? ⟨w3.heap.size, 2, none⟩ = some (.bool o') ∧ w'.cell? ⟨w3.heap.size, 3, none⟩ = some (.bool b') ∧ w.heap.size < w3.heap.size ∧ w2.heap.size < w3.heap.size ∧ w3.heap.size < w'.heap.size ∧ Q w w') (w3.alloc (.cells #[.int .i64 x, .int .i64 y, .bool o', .bool b'] 23)).drew) := Lib.hid S0
      clear q0 S0 C1 C2 C3 P3 g1 g2 g3 g0
      refine wp_region_held_drew (S := (fun w' => w'.cell? ⟨w.heap.size, 0, none⟩ = some (.int .i64 f) ∧ w'.cell? ⟨w.heap.size, 1, none⟩ = some (.int .i64 t) ∧ w'.cell? ⟨w.heap.size, 2, none⟩ = some (.bool o) ∧ w'.cell? ⟨w.heap.size, 3, none⟩ = some (.bool b) ∧ w'.cell? ⟨w2.heap.size, 0, none⟩ = some (.int .i64 x) ∧ w'.cell? ⟨w2.heap.size, 1, none⟩ = some (.int .i64 y) ∧ w'.cell? ⟨w2.heap.size, 2, none⟩ = some (.bool o') ∧ w'.cell? ⟨w2.heap.size, 3, none⟩ = some (.bool b') ∧ w'.cell? ⟨w3.heap.size, 0, none⟩ = some (.int .i64 x) ∧ w'.cell? ⟨w3.heap.size, 1, none⟩ = some (.int .i64 y) ∧ w'.cell? ⟨w3.heap.size, 2, none⟩ = some (.bool o') ∧ w'.cell? ⟨w3.heap.size, 3, none⟩ = some (.bool b') ∧ w.heap.size < w3.heap.size ∧ w2.heap.size < w3.heap.size ∧ w3.heap.size < w'.heap.size ∧ Q w w')) (by kernel_rfl) SN.out (fun hHeld => ?_)
      refine wpAnyH_take (i := 0) (oi := _) (v := ?_) rfl (by kernel_rfl) (by kernel_rfl) (by kernel_rfl) (fun _ _ _ h => h) (Or.inl ⟨by rfl, ?_⟩) (by assumption) ?_
      rotate_left
      · (intro wx hSw; (try dsimp only at hSw); go_simp; (try with_reducible rfl))
      (try simp only [Act.put, List.getElem_toArray, List.getElem_cons_zero, List.getElem_cons_succ, List.setIfInBounds_toArray, List.set_cons_zero, List.set_cons_succ])
      refine wpAnyH_take (i := 2) (oi := _) (v := ?_) rfl (by kernel_rfl) (by kernel_rfl) (by kernel_rfl) (fun _ _ _ h => h) (Or.inl ⟨by rfl, ?_⟩) (by assumption) ?_
      rotate_left
      · (intro wx hSw; (try dsimp only at hSw); go_simp; (try with_reducible rfl))
      (try simp only [Act.put, List.getElem_toArray, List.getElem_cons_zero, List.getElem_cons_succ, List.setIfInBounds_toArray, List.set_cons_zero, List.set_cons_succ])
      refine wpAnyH_ready (rs := [1]) (by kernel_rfl) (by simp) ?_
      refine AllReadyH.cons (o := _) rfl (fun K hK => ?_) AllReadyH.nil
      go_simp
      go_at_call 14
      refine (M1.out _ (by assumption)).mono ?_
      rintro e w' ⟨rfl, hS⟩
      refine hK.out _ _ hS (fun hHeld => ?_)
      clear hK K
      (try simp only [Act.put, List.getElem_toArray, List.getElem_cons_zero, List.getElem_cons_succ, List.setIfInBounds_toArray, List.set_cons_zero, List.set_cons_succ])
      refine wpAnyH_ready (rs := [3]) (by kernel_rfl) (by simp) ?_
      refine AllReadyH.cons (o := _) rfl (fun K hK => ?_) AllReadyH.nil
      go_simp
      go_at_call 15
      refine (M2.out _ (by assumption)).mono ?_
      rintro e w' ⟨rfl, hS⟩
      refine hK.out _ _ hS (fun hHeld => ?_)
      clear hK K
      (try simp only [Act.put, List.getElem_toArray, List.getElem_cons_zero, List.getElem_cons_succ, List.setIfInBounds_toArray, List.set_cons_zero, List.set_cons_succ])
      refine wpAnyH_take (i := 4) (oi := _) (v := ?_) rfl (by kernel_rfl) (by kernel_rfl) (by kernel_rfl) (fun _ _ _ h => h) (Or.inl ⟨by rfl, ?_⟩) (by assumption) ?_
      rotate_left
      · (intro wx hSw; (try dsimp only at hSw); go_simp; (try with_reducible rfl))
      (try simp only [Act.put, List.getElem_toArray, List.getElem_cons_zero, List.getElem_cons_succ, List.setIfInBounds_toArray, List.set_cons_zero, List.set_cons_succ])
      refine wpAnyH_take (i := 5) (oi := _) (v := ?_) rfl (by kernel_rfl) (by kernel_rfl) (by kernel_rfl) (fun _ _ _ h => h) (Or.inl ⟨by rfl, ?_⟩) (by assumption) ?_
      rotate_left
      · (intro wx hSw; (try dsimp only at hSw); go_simp; (try with_reducible rfl))
      (try simp only [Act.put, List.getElem_toArray, List.getElem_cons_zero, List.getElem_cons_succ, List.setIfInBounds_toArray, List.set_cons_zero, List.set_cons_succ])
      refine wpAnyH_take (i := 6) (oi := _) (v := ?_) rfl (by kernel_rfl) (by kernel_rfl) (by kernel_rfl) (fun _ _ _ h => h) (Or.inl ⟨by rfl, ?_⟩) (by assumption) ?_
      rotate_left
      · (intro wx hSw; (try dsimp only at hSw); go_simp; (try with_reducible rfl))
      (try simp only [Act.put, List.getElem_toArray, List.getElem_cons_zero, List.getElem_cons_succ, List.setIfInBounds_toArray, List.set_cons_zero, List.set_cons_succ])
      refine wpAnyH_take (i := 7) (oi := _) (v := ?_) rfl (by kernel_rfl) (by kernel_rfl) (by kernel_rfl) (fun _ _ _ h => h) (Or.inl ⟨by rfl, ?_⟩) (by assumption) ?_
      rotate_left
      · (intro wx hSw; (try dsimp only at hSw); go_simp; (try with_reducible rfl))
      (try simp only [Act.put, List.getElem_toArray, List.getElem_cons_zero, List.getElem_cons_succ, List.setIfInBounds_toArray, List.set_cons_zero, List.set_cons_succ])
      refine wpAnyH_take (i := 8) (oi := _) (v := ?_) rfl (by kernel_rfl) (by kernel_rfl) (by kernel_rfl) (fun _ _ _ h => h) (Or.inl ⟨by rfl, ?_⟩) (by assumption) ?_
      rotate_left
      · (intro wx hSw; (try dsimp only at hSw); go_simp; (try with_reducible rfl))
      (try simp only [Act.put, List.getElem_toArray, List.getElem_cons_zero, List.getElem_cons_succ, List.setIfInBounds_toArray, List.set_cons_zero, List.set_cons_succ])
      refine wpAnyH_take (i := 9) (oi := _) (v := ?_) rfl (by kernel_rfl) (by kernel_rfl) (by kernel_rfl) (fun _ _ _ h => h) (Or.inl ⟨by rfl, ?_⟩) (by assumption) ?_
      rotate_left
      · (intro wx hSw; (try dsimp only at hSw); go_simp; (try with_reducible rfl))
      (try simp only [Act.put, List.getElem_toArray, List.getElem_cons_zero, List.getElem_cons_succ, List.setIfInBounds_toArray, List.set_cons_zero, List.set_cons_succ])
      refine wpAnyH_take (i := 10) (oi := _) (v := ?_) rfl (by kernel_rfl) (by kernel_rfl) (by kernel_rfl) (fun _ _ _ h => h) (Or.inl ⟨by rfl, ?_⟩) (by assumption) ?_
      rotate_left
      · (intro wx hSw; (try dsimp only at hSw); go_simp; (try with_reducible rfl))
      (try simp only [Act.put, List.getElem_toArray, List.getElem_cons_zero, List.getElem_cons_succ, List.setIfInBounds_toArray, List.set_cons_zero, List.set_cons_succ])
      refine wpAnyH_take (i := 11) (oi := _) (v := ?_) rfl (by kernel_rfl) (by kernel_rfl) (by kernel_rfl) (fun _ _ _ h => h) (Or.inl ⟨by rfl, ?_⟩) (by assumption) ?_
      rotate_left
      · (intro wx hSw; (try dsimp only at hSw); go_simp; (try with_reducible rfl))
      (try simp only [Act.put, List.getElem_toArray, List.getElem_cons_zero, List.getElem_cons_succ, List.setIfInBounds_toArray, List.set_cons_zero, List.set_cons_succ])
      refine wpAnyH_take (i := 12) (oi := _) (v := ?_) rfl (by kernel_rfl) (by kernel_rfl) (by kernel_rfl) (fun _ _ _ h => h) (Or.inl ⟨by rfl, ?_⟩) (by assumption) ?_
      rotate_left
      · (intro wx hSw; (try dsimp only at hSw); go_simp; (try with_reducible rfl))
      (try simp only [Act.put, List.getElem_toArray, List.getElem_cons_zero, List.getElem_cons_succ, List.setIfInBounds_toArray, List.set_cons_zero, List.set_cons_succ])
      refine wpAnyH_take (i := 13) (oi := _) (v := ?_) rfl (by kernel_rfl) (by kernel_rfl) (by kernel_rfl) (fun _ _ _ h => h) (Or.inl ⟨by rfl, ?_⟩) (by assumption) ?_
      rotate_left
      · (intro wx hSw; (try dsimp only at hSw); go_simp; (try with_reducible rfl))
      (try simp only [Act.put, List.getElem_toArray, List.getElem_cons_zero, List.getElem_cons_succ, List.setIfInBounds_toArray, List.set_cons_zero, List.set_cons_succ])
      refine wpAnyH_take (i := 14) (oi := _) (v := ?_) rfl (by kernel_rfl) (by kernel_rfl) (by kernel_rfl) (fun _ _ _ h => h) (Or.inl ⟨by rfl, ?_⟩) (by assumption) ?_
      rotate_left
      · (intro wx hSw; (try dsimp only at hSw); go_simp; (try with_reducible rfl))
      (try simp only [Act.put, List.getElem_toArray, List.getElem_cons_zero, List.getElem_cons_succ, List.setIfInBounds_toArray, List.set_cons_zero, List.set_cons_succ])
      refine wpAnyH_take (i := 15) (oi := _) (v := ?_) rfl (by kernel_rfl) (by kernel_rfl) (by kernel_rfl) (fun _ _ _ h => h) (Or.inl ⟨by rfl, ?_⟩) (by assumption) ?_
      rotate_left
      · (intro wx hSw; (try dsimp only at hSw); go_simp; (try with_reducible rfl))
      (try simp only [Act.put, List.getElem_toArray, List.getElem_cons_zero, List.getElem_cons_succ, List.setIfInBounds_toArray, List.set_cons_zero, List.set_cons_succ])
      refine wpAnyH_take (i := 16) (oi := _) (v := ?_) rfl (by kernel_rfl) (by kernel_rfl) (by kernel_rfl) (fun _ _ _ h => h) (Or.inl ⟨by rfl, ?_⟩) (by assumption) ?_
      rotate_left
      · (intro wx hSw; (try dsimp only at hSw); go_simp; (try with_reducible rfl))
      (try simp only [Act.put, List.getElem_toArray, List.getElem_cons_zero, List.getElem_cons_succ, List.setIfInBounds_toArray, List.set_cons_zero, List.set_cons_succ])
      refine wpAnyH_take (i := 17) (oi := _) (v := ?_) rfl (by kernel_rfl) (by kernel_rfl) (by kernel_rfl) (fun _ _ _ h => h) (Or.inl ⟨by rfl, ?_⟩) (by assumption) ?_
      rotate_left
      · (intro wx hSw; (try dsimp only at hSw); go_simp; (try with_reducible rfl))
      (try simp only [Act.put, List.getElem_toArray, List.getElem_cons_zero, List.getElem_cons_succ, List.setIfInBounds_toArray, List.set_cons_zero, List.set_cons_succ])
      refine wpAnyH_take (i := 18) (oi := _) (v := ?_) rfl (by kernel_rfl) (by kernel_rfl) (by kernel_rfl) (fun _ _ _ h => h) (Or.inl ⟨by rfl, ?_⟩) (by assumption) ?_
      rotate_left
      · (intro wx hSw; (try dsimp only at hSw); go_simp; (try with_reducible rfl))
      (try simp only [Act.put, List.getElem_toArray, List.getElem_cons_zero, List.getElem_cons_succ, List.setIfInBounds_toArray, List.set_cons_zero, List.set_cons_succ])
      refine wpAnyH_take (i := 19) (oi := _) (v := ?_) rfl (by kernel_rfl) (by kernel_rfl) (by kernel_rfl) (fun _ _ _ h => h) (Or.inl ⟨by rfl, ?_⟩) (by assumption) ?_
      rotate_left
      · (intro wx hSw; (try dsimp only at hSw); go_simp; (try with_reducible rfl))
      (try simp only [Act.put, List.getElem_toArray, List.getElem_cons_zero, List.getElem_cons_succ, List.setIfInBounds_toArray, List.set_cons_zero, List.set_cons_succ])
      refine wpAnyH_take (i := 20) (oi := _) (v := undef) rfl (by kernel_rfl) (by kernel_rfl) (by kernel_rfl) (fun _ _ _ h => h) (Or.inr ⟨by rfl, rfl⟩) (by assumption) ?_
      (try simp only [Act.put, List.getElem_toArray, List.getElem_cons_zero, List.getElem_cons_succ, List.setIfInBounds_toArray, List.set_cons_zero, List.set_cons_succ])
      refine wpAnyH_take (i := 21) (oi := _) (v := undef) rfl (by kernel_rfl) (by kernel_rfl) (by kernel_rfl) (fun _ _ _ h => h) (Or.inr ⟨by rfl, rfl⟩) (by assumption) ?_
      (try simp only [Act.put, List.getElem_toArray, List.getElem_cons_zero, List.getElem_cons_succ, List.setIfInBounds_toArray, List.set_cons_zero, List.set_cons_succ])
      refine wpAnyH_take (i := 22) (oi := _) (v := ?_) rfl (by kernel_rfl) (by kernel_rfl) (by kernel_rfl) (fun _ _ _ h => h) (Or.inl ⟨by rfl, ?_⟩) (by assumption) ?_
      rotate_left
      · (intro wx hSw; (try dsimp only at hSw); go_simp; (try with_reducible rfl))
      (try simp only [Act.put, List.getElem_toArray, List.getElem_cons_zero, List.getElem_cons_succ, List.setIfInBounds_toArray, List.set_cons_zero, List.set_cons_succ])
      refine wpAnyH_take (i := 23) (oi := _) (v := ?_) rfl (by kernel_rfl) (by kernel_rfl) (by kernel_rfl) (fun _ _ _ h => h) (Or.inl ⟨by rfl, ?_⟩) (by assumption) ?_
      rotate_left
      · (intro wx hSw; (try dsimp only at hSw); go_simp; (try with_reducible rfl))
      (try simp only [Act.put, List.getElem_toArray, List.getElem_cons_zero, List.getElem_cons_succ, List.setIfInBounds_toArray, List.set_cons_zero, List.set_cons_succ])
      refine wpAnyH_done (by kernel_rfl) ?_ _
      obtain ⟨c0, c1, c2, c3, p0, p1, p2, p3, r0, r1, r2, r3, z1, z2, z3, q⟩ := hS
      clear KS SN M1 M2 p0 p1 p2 p3 r0 r1 r2 r3
      go_wp2_with fail
      refine (M3.out _).mono ?_
      rintro e w6 ⟨rfl, q6⟩
      have g5 : w.heap.size < w'.heap.size := by omega
      have C6 := Cells.on ⟨c0, c1, c2, c3⟩ g5 q6
      have g6 := Nat.lt_of_lt_of_le g5 q6.size
      clear c0 c1 c2 c3
      go_wp2_with fail
      refine (P2.out _).mono ?_
      rintro e w7 ⟨rfl, q7⟩
      have C7 := Cells.on C6 g6 q7
      have g7 := Nat.lt_of_lt_of_le g6 q7.size
      obtain ⟨c0, c1, c2, c3⟩ := C7
      go_wp2_with fail
      refine (RT.out _).mono ?_
      rintro e w8 ⟨rfl, q8⟩
      have C8 := Cells.on ⟨c0, c1, c2, c3⟩ g7 (((Q.refl w7).alloc _).trans q8)
      obtain ⟨x0, x1, x2, x3⟩ := cells_of q8
      clear c0 c1 c2 c3
      obtain ⟨c0, c1, c2, c3⟩ := C8
      go_wp2_with fail
      refine (awake_any _).mono ?_
      rintro e w9 ⟨rfl, q9⟩
      go_wp2
      go_ret
      exact ⟨rfl, (((((q.trans q6).trans q7).alloc _).trans q8)).trans q9⟩

set_option maxRecDepth 100000 in
theorem lifted (os : Os) (started : os.Started) (H : Type) (enc : TypeId × Value → H) :
    ReturnsInHanded {} Try.checked os 3 .any (Rows.spanTextsSpec.pre6 enc Try.prog Try.f3 Rows.spanTextsRow.domain false) (Rows.spanTextsSpec.post enc Try.prog Try.f3 false true false false) := by
  refine returnsInHanded_of_change (C := Try.checked) own started (by kernel_rfl) Try.func3
    (ChangeSpec.witness6 (enc := enc) (C := Try.checked) false ⟨#[], #[.agg #[.int .i64 0, .int .i64 0, .bool false, .bool false], .string ByteArray.empty], []⟩ 8 (by kernel_rfl) (by kernel_rfl) (by kernel_rfl) (by kernel_rfl)) ?_
  intro W base args ds gs before hval0 hW hcnd _
  have hval : ∀ (j : Nat) t v, Try.f3.params[j]? = some t → args[j]? = some v → Value.okWide Try.prog W .any base t v := hval0
  have hW' := hW
  obtain ⟨p, q, hA0, hV, rfl, hfz, hnd⟩ := hW
  have hA : DataW.TrodAll enc Try.prog W 0 (fun _ => true) true Try.f3.params.toList args.toList ds p := hA0
  rw [Try.params3] at hA hval
  obtain ⟨v0, vs0, d0, ds0, p0, q0, hargs, rfl, rfl, h0, r0⟩ := trodAll_cons hA
  obtain ⟨v1, vs1, d1, ds1, p1, q1, rfl, rfl, rfl, h1, r1⟩ := trodAll_cons r0
  obtain ⟨rfl, rfl, rfl⟩ := trodAll_nil r1
  obtain rfl : args = #[v0, v1] := by cases args; simp_all
  obtain ⟨rfl, rfl⟩ := trodVars_none hV
  clear hA0 hval0
  simp only [List.append_nil] at hW'
  have hlt : ∀ x ∈ p0 ++ p1, x.block < W.heap.size := fun x hx => by simpa using hW'.lt x (by simpa using hx)
  obtain ⟨f0, t0, o0, b0, rfl, u0, z0⟩ := open_span (hval 0 23 v0 rfl rfl) h0
  obtain ⟨a1, rfl, -, -, w1⟩ := open_string Try.underlying9 (hval 1 9 v1 rfl rfl) h1
  refine (walk f0 t0 o0 b0 a1 W u0 z0 w1).mono fun e W' ⟨he, bel⟩ => ?_
  subst he
  refine ⟨_, rfl, _, _, _, [], _, [], hW', trodAll_mk1 (shut_bool Try.underlying4 _), (trodAll_cons_mk (Below.trod laid (by kernel_rfl) (of_decide_eq_true (by kernel_rfl)) h0 bel (fun x hx => hlt x (by simp [hx]))) (trodAll_cons_mk (Below.trod laid (by kernel_rfl) (of_decide_eq_true (by kernel_rfl)) h1 bel (fun x hx => hlt x (by simp [hx]))) trodAll_mk0)), rfl, Below.frame bel _, fun h => by cases h⟩

theorem over : Rows.spanTextsRow.holds Try.pinned (OpenSpec.ofChange Rows.spanTextsSpec) :=
  OpenClaim.holds_of_wide 3 Try.f3 rfl rfl rfl rfl rfl rfl rfl ⟨rfl, rfl, rfl, rfl, rfl⟩ rfl rfl rfl rfl rfl (by kernel_rfl) Try.func3 (by kernel_rfl)
    (of_decide_eq_true (by kernel_rfl)) (by unfold Func.isWrapper; first | (rw [if_pos (by decide +kernel)]; kernel_rfl) | (rw [if_neg (by decide +kernel)]; exact ⟨rfl, rfl⟩))
    (fun os started H enc _ => lifted os started H enc)

theorem proved : Rows.SpanTextsSaid := over
#print axioms proved
end Go.Proofs.Ytmekgpnppcponaa.spanTexts
