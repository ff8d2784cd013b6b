/-
  Proved: whatever text SpanWhole is called with, it returns true and leaves what it was given as it was. No condition.
-/
import Derived.Test.YtmekgpnppcponaaSAwake
import Derived.Test.YtmekgpnppcponaaSMath
import Derived.Test.YtmekgpnppcponaaSOpen
namespace Go.Proofs.Ytmekgpnppcponaa.spanWhole
open Go.ChangeShapes Go.WideShapes Go.ChangeAt Go.RowKit
open Go.ChangeMaps (open_string shut_string)
set_option linter.unusedVariables false

attribute [local irreducible] ofP few
set_option maxHeartbeats 4000000 in
set_option maxRecDepth 100000 in
theorem walk (d : ByteArray) (w0 : d.size ≤ maxLen) (w : World) :
    Calls Try.prog 7 #[.string d] w fun e w' => e = .returned (.bool true) ∧ Q w w' := by
  have fs := few_size d
  have F := Lib.hid fun w => few_any d w w0
  obtain ⟨D, hD⟩ : ∃ D, D = few d := ⟨_, rfl⟩
  rw [← hD] at fs F
  clear hD
  have hD0 : D.size ≤ 5000 := by omega
  by_cases hz : D.size = 0
  · obtain rfl := text_nil hz
    have n0 : (⟨#[]⟩ : ByteArray).toList = [] := by kernel_rfl
    have A := Lib.hid fun w => cut_no 0 0 true false ⟨#[]⟩ w (by decide) (x := 0) (y := 0) (e := 12) (by unfold ofP; decide) (by decide)
    have B := Lib.hid fun w => cut_no 0 0 false false ⟨#[]⟩ w (by decide) (x := 0) (y := 0) (e := 12) (by unfold ofP; decide) (by decide)
    have C := Lib.hid fun w => cut_no 0 0 false true ⟨#[]⟩ w (by decide) (x := 0) (y := 0) (e := 12) (by unfold ofP; decide) (by decide)
    clear hz
    rw [spn] at A B C
    go_enter Try.func7, Try.ntmps7
    go_wp2_with fail
    refine (F.out _).mono ?_
    rintro e w0 ⟨rfl, rfl⟩
    go_wp2_with fail
    refine (A.out _).mono ?_
    rintro e w1 ⟨rfl, q1⟩
    go_wp2_with fail
    refine (B.out _).mono ?_
    rintro e w2 ⟨rfl, q2⟩
    go_wp2_with fail
    refine (C.out _).mono ?_
    rintro e w3 ⟨rfl, q3⟩
    go_wp2_with fail
    refine (awake_any _).mono ?_
    rintro e w9 ⟨rfl, q9⟩
    go_wp2
    go_ret
    exact ⟨rfl, ((q1.trans q2).trans q3).trans q9⟩
  · have hp : 0 < D.size := by omega
    have E := Lib.hid (all_cut D)
    have A := Lib.hid fun w => cut_yes 0 0 true false D w hD0 (i := 0) (k := D.size) (by rw [of_open (by omega) (by omega) (by omega)]; simp)
    have C := Lib.hid fun w => cut_yes 0 D.size false true D w hD0 (i := 0) (k := D.size) (by rw [of_back (by omega) (by omega) (by omega), if_pos (by omega)]; simp)
    have e1 := emp_no hp
    have e2 := eqe_no hp
    clear hz
    by_cases h1 : D.size = 1
    · have B := Lib.hid fun w => cut_yes 0 0 false false D w hD0 (i := 0) (k := D.size) (by rw [of_in (by omega) (by omega) (by omega) (by omega)]; simp; omega)
      rw [Nat.zero_add, E.out] at A B C
      have h2 : (D.size : Int) ≤ 1 := by omega
      clear h1
      rw [spn] at A B C
      go_enter Try.func7, Try.ntmps7
      go_wp2_with fail
      refine (F.out _).mono ?_
      rintro e w0 ⟨rfl, rfl⟩
      go_wp2_with fail
      refine (A.out _).mono ?_
      rintro e w1 ⟨rfl, q1⟩
      go_wp2_with fail
      refine (B.out _).mono ?_
      rintro e w2 ⟨rfl, q2⟩
      go_wp2_with fail
      refine (C.out _).mono ?_
      rintro e w3 ⟨rfl, q3⟩
      go_wp2_with fail
      refine (awake_any _).mono ?_
      rintro e w9 ⟨rfl, q9⟩
      go_wp2
      go_ret
      exact ⟨rfl, ((q1.trans q2).trans q3).trans q9⟩
    · have B := Lib.hid fun w => cut_yes 0 ((D.size : Int) - 1) false false D w hD0 (i := 0) (k := D.size) (by rw [of_in (by omega) (by omega) (by omega) (by omega)]; simp)
      rw [Nat.zero_add, E.out] at A B C
      have h2 : (1 : Int) < D.size := by omega
      clear h1
      rw [spn] at A B C
      go_enter Try.func7, Try.ntmps7
      go_wp2_with fail
      refine (F.out _).mono ?_
      rintro e w0 ⟨rfl, rfl⟩
      go_wp2_with fail
      refine (A.out _).mono ?_
      rintro e w1 ⟨rfl, q1⟩
      go_wp2_with fail
      refine (B.out _).mono ?_
      rintro e w2 ⟨rfl, q2⟩
      go_wp2_with fail
      refine (C.out _).mono ?_
      rintro e w3 ⟨rfl, q3⟩
      go_wp2_with fail
      refine (awake_any _).mono ?_
      rintro e w9 ⟨rfl, q9⟩
      go_wp2
      go_ret
      exact ⟨rfl, ((q1.trans q2).trans q3).trans q9⟩

set_option maxRecDepth 100000 in
theorem lifted (os : Os) (started : os.Started) (H : Type) (enc : TypeId × Value → H) :
    ReturnsInHanded {} Try.checked os 7 .any (Rows.spanWholeSpec.pre6 enc Try.prog Try.f7 Rows.spanWholeRow.domain false) (Rows.spanWholeSpec.post enc Try.prog Try.f7 false true false false) := by
  refine returnsInHanded_of_change (C := Try.checked) own started (by kernel_rfl) Try.func7
    (ChangeSpec.witness6 (enc := enc) (C := Try.checked) false ⟨#[], #[.string ByteArray.empty], []⟩ 8 (by kernel_rfl) (by kernel_rfl) (by kernel_rfl) (by kernel_rfl)) ?_
  intro W base args ds gs before hval0 hW hcnd _
  have hval : ∀ (j : Nat) t v, Try.f7.params[j]? = some t → args[j]? = some v → Value.okWide Try.prog W .any base t v := hval0
  have hW' := hW
  obtain ⟨p, q, hA0, hV, rfl, hfz, hnd⟩ := hW
  have hA : DataW.TrodAll enc Try.prog W 0 (fun _ => true) true Try.f7.params.toList args.toList ds p := hA0
  rw [Try.params7] at hA hval
  obtain ⟨v0, vs0, d0, ds0, p0, q0, hargs, rfl, rfl, h0, r0⟩ := trodAll_cons hA
  obtain ⟨rfl, rfl, rfl⟩ := trodAll_nil r0
  obtain rfl : args = #[v0] := by cases args; simp_all
  obtain ⟨rfl, rfl⟩ := trodVars_none hV
  clear hA0 hval0
  simp only [List.append_nil] at hW'
  have hlt : ∀ x ∈ p0, x.block < W.heap.size := fun x hx => by simpa using hW'.lt x (by simpa using hx)
  obtain ⟨a0, rfl, -, -, w0⟩ := open_string Try.underlying9 (hval 0 9 v0 rfl rfl) h0
  refine (walk a0 w0 W).mono fun e W' ⟨he, bel⟩ => ?_
  subst he
  refine ⟨_, rfl, _, _, _, [], _, [], hW', trodAll_mk1 (shut_bool Try.underlying4 _), (trodAll_cons_mk (Below.trod laid (by kernel_rfl) (of_decide_eq_true (by kernel_rfl)) h0 bel (fun x hx => hlt x (by simp [hx]))) trodAll_mk0), rfl, Below.frame bel _, fun h => by cases h⟩

theorem over : Rows.spanWholeRow.holds Try.pinned (OpenSpec.ofChange Rows.spanWholeSpec) :=
  OpenClaim.holds_of_wide 7 Try.f7 rfl rfl rfl rfl rfl rfl rfl ⟨rfl, rfl, rfl, rfl, rfl⟩ rfl rfl rfl rfl rfl (by kernel_rfl) Try.func7 (by kernel_rfl)
    (of_decide_eq_true (by kernel_rfl)) (by unfold Func.isWrapper; first | (rw [if_pos (by decide +kernel)]; kernel_rfl) | (rw [if_neg (by decide +kernel)]; exact ⟨rfl, rfl⟩))
    (fun os started H enc _ => lifted os started H enc)

theorem proved : Rows.SpanWholeSaid := over
#print axioms proved
end Go.Proofs.Ytmekgpnppcponaa.spanWhole
