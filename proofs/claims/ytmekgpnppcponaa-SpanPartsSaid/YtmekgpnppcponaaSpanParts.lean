/-
  Proved: whatever text and number SpanParts is called with, it returns true and leaves what it was given as it was. No condition.
-/
import Derived.Test.YtmekgpnppcponaaSAwake
import Derived.Test.YtmekgpnppcponaaSMath
import Derived.Test.YtmekgpnppcponaaSOpen
namespace Go.Proofs.Ytmekgpnppcponaa.spanParts
open Go.ChangeShapes Go.WideShapes Go.ChangeAt Go.RowKit
open Go.ChangeMaps (open_string shut_string)
set_option linter.unusedVariables false

attribute [local irreducible] ofP few
set_option maxHeartbeats 4000000 in
set_option maxRecDepth 100000 in
theorem walk (d : ByteArray) (a : Int) (w0 : d.size ≤ maxLen) (w1 : (Lit.int .u16 a).wf = true) (w : World) :
    Calls Try.prog 5 #[.string d, .int .u16 a] w fun e w' => e = .returned (.bool true) ∧ Q w w' := by
  obtain ⟨n, rfl, hn⟩ := nat16 w1
  clear w1
  have fs := few_size d
  have F := Lib.hid fun w => few_any d w w0
  obtain ⟨D, hD⟩ : ∃ D, D = few d := ⟨_, rfl⟩
  rw [← hD] at fs F
  clear hD
  have hD0 : D.size ≤ 5000 := by omega
  by_cases hz : D.size < 2
  · skip
    go_enter Try.func5, Try.ntmps5
    go_wp2_with fail
    refine (F.out _).mono ?_
    rintro e w0 ⟨rfl, rfl⟩
    go_wp2_with fail
    refine (awake_any _).mono ?_
    rintro e w9 ⟨rfl, q9⟩
    go_wp2
    go_ret
    exact ⟨rfl, q9⟩
  · have hp : 2 ≤ D.size := by omega
    obtain ⟨m, hm⟩ : ∃ m, m = n % (D.size - 1) := ⟨_, rfl⟩
    have hm1 : m < D.size - 1 := by rw [hm]; exact Nat.mod_lt _ (by omega)
    have e1 : (n : Int) % ((D.size : Int) - 1) = (m : Int) := by rw [hm, Int.natCast_emod, Int.natCast_sub (by omega)]; rfl
    have A := Lib.hid fun w => cut_yes 0 (1 + (m : Int) - 1) false false D w hD0 (i := 0) (k := m + 1) (by rw [of_in (by omega) (by omega) (by omega) (by omega)]; simp; omega)
    have B := Lib.hid fun w => cut_yes (1 + (m : Int)) 0 true false D w hD0 (i := m + 1) (k := D.size - (m + 1)) (by rw [of_open (by omega) (by omega) (by omega)]; simp; omega)
    have C := Lib.hid fun w => cut_yes 0 ((D.size : Int) - (1 + (m : Int))) false true D w hD0 (i := m + 1) (k := D.size - (m + 1)) (by rw [of_back (by omega) (by omega) (by omega), if_neg (by omega)]; simp; omega)
    rw [Nat.zero_add] at A
    rw [show m + 1 + (D.size - (m + 1)) = D.size by omega] at B C
    have E := Lib.hid (two_cut D (k := m + 1) (by omega))
    have z1 : (D.extract 0 (m + 1)).size = m + 1 := by rw [size_cut _ (by omega)]; omega
    obtain ⟨x, hx⟩ : ∃ x, x = D.extract 0 (m + 1) := ⟨_, rfl⟩
    obtain ⟨y, hy⟩ : ∃ y, y = D.extract (m + 1) D.size := ⟨_, rfl⟩
    have z2 : y.size ≤ 5000 := by rw [hy, size_cut _ (by omega)]; omega
    rw [← hx] at A z1 E
    rw [← hy] at B C E
    have e2 := E.out
    clear hx hy hm hz
    rw [spn] at A B C
    go_enter Try.func5, Try.ntmps5
    go_wp2_with fail
    refine (F.out _).mono ?_
    rintro e w0 ⟨rfl, rfl⟩
    go_wp2_with fail
    refine (A.out _).mono ?_
    rintro e w1 ⟨rfl, q1⟩
    go_wp2_with fail
    refine (B.out _).mono ?_
    rintro e w2 ⟨rfl, q2⟩
    go_wp2_with fail
    refine (C.out _).mono ?_
    rintro e w3 ⟨rfl, q3⟩
    go_wp2_with fail
    refine (awake_any _).mono ?_
    rintro e w9 ⟨rfl, q9⟩
    go_wp2
    go_ret
    exact ⟨rfl, ((q1.trans q2).trans q3).trans q9⟩

set_option maxRecDepth 100000 in
theorem lifted (os : Os) (started : os.Started) (H : Type) (enc : TypeId × Value → H) :
    ReturnsInHanded {} Try.checked os 5 .any (Rows.spanPartsSpec.pre6 enc Try.prog Try.f5 Rows.spanPartsRow.domain false) (Rows.spanPartsSpec.post enc Try.prog Try.f5 false true false false) := by
  refine returnsInHanded_of_change (C := Try.checked) own started (by kernel_rfl) Try.func5
    (ChangeSpec.witness6 (enc := enc) (C := Try.checked) false ⟨#[], #[.string ByteArray.empty, .int .u16 0], []⟩ 8 (by kernel_rfl) (by kernel_rfl) (by kernel_rfl) (by kernel_rfl)) ?_
  intro W base args ds gs before hval0 hW hcnd _
  have hval : ∀ (j : Nat) t v, Try.f5.params[j]? = some t → args[j]? = some v → Value.okWide Try.prog W .any base t v := hval0
  have hW' := hW
  obtain ⟨p, q, hA0, hV, rfl, hfz, hnd⟩ := hW
  have hA : DataW.TrodAll enc Try.prog W 0 (fun _ => true) true Try.f5.params.toList args.toList ds p := hA0
  rw [Try.params5] at hA hval
  obtain ⟨v0, vs0, d0, ds0, p0, q0, hargs, rfl, rfl, h0, r0⟩ := trodAll_cons hA
  obtain ⟨v1, vs1, d1, ds1, p1, q1, rfl, rfl, rfl, h1, r1⟩ := trodAll_cons r0
  obtain ⟨rfl, rfl, rfl⟩ := trodAll_nil r1
  obtain rfl : args = #[v0, v1] := by cases args; simp_all
  obtain ⟨rfl, rfl⟩ := trodVars_none hV
  clear hA0 hval0
  simp only [List.append_nil] at hW'
  have hlt : ∀ x ∈ p0 ++ p1, x.block < W.heap.size := fun x hx => by simpa using hW'.lt x (by simpa using hx)
  obtain ⟨a0, rfl, -, -, w0⟩ := open_string Try.underlying9 (hval 0 9 v0 rfl rfl) h0
  obtain ⟨a1, rfl, -, -, w1⟩ := open_int Try.underlying42 (hval 1 42 v1 rfl rfl) h1
  refine (walk a0 a1 w0 w1 W).mono fun e W' ⟨he, bel⟩ => ?_
  subst he
  refine ⟨_, rfl, _, _, _, [], _, [], hW', trodAll_mk1 (shut_bool Try.underlying4 _), (trodAll_cons_mk (Below.trod laid (by kernel_rfl) (of_decide_eq_true (by kernel_rfl)) h0 bel (fun x hx => hlt x (by simp [hx]))) (trodAll_cons_mk (Below.trod laid (by kernel_rfl) (of_decide_eq_true (by kernel_rfl)) h1 bel (fun x hx => hlt x (by simp [hx]))) trodAll_mk0)), rfl, Below.frame bel _, fun h => by cases h⟩

theorem over : Rows.spanPartsRow.holds Try.pinned (OpenSpec.ofChange Rows.spanPartsSpec) :=
  OpenClaim.holds_of_wide 5 Try.f5 rfl rfl rfl rfl rfl rfl rfl ⟨rfl, rfl, rfl, rfl, rfl⟩ rfl rfl rfl rfl rfl (by kernel_rfl) Try.func5 (by kernel_rfl)
    (of_decide_eq_true (by kernel_rfl)) (by unfold Func.isWrapper; first | (rw [if_pos (by decide +kernel)]; kernel_rfl) | (rw [if_neg (by decide +kernel)]; exact ⟨rfl, rfl⟩))
    (fun os started H enc _ => lifted os started H enc)

theorem proved : Rows.SpanPartsSaid := over
#print axioms proved
end Go.Proofs.Ytmekgpnppcponaa.spanParts
