/-
  Proved: whatever two numbers TagSigns is called with, it returns true and leaves what it was given as it was. No condition.
-/
import Derived.Test.YtffhpgdlnohgjaaTAwake
namespace Go.Proofs.Ytffhpgdlnohgjaa.tagSigns
open Go.ChangeShapes Go.WideShapes Go.ChangeAt Go.RowKit
open Go.ChangeMaps (open_string shut_string)
set_option linter.unusedVariables false

attribute [local irreducible] few crc more reg manyP hexk cnt
set_option maxHeartbeats 4000000 in
set_option maxRecDepth 100000 in
theorem walk (a b : Int) (w0 : (Lit.int .u32 a).wf = true) (w1 : (Lit.int .u32 b).wf = true) (w : World) :
    Calls Try.prog 7 #[.int .u32 a, .int .u32 b] w fun e w' => e = .returned (.bool true) ∧ Q w w' := by
  obtain ⟨a, rfl, ha⟩ := wf32 w0
  obtain ⟨b, rfl, hb⟩ := wf32 w1
  clear w0 w1
  have A := Lib.hid fun w => text_any a w ha
  have B := Lib.hid fun w => text_any b w hb
  have z : (mk (hexk 8 a)).size = 8 := by rw [mk_size, hexk_length]
  have z2 : (mk (hexk 8 a)).size ≤ 5000 := by omega
  have C := Lib.hid fun w => parse_any (mk (hexk 8 a)) w z2
  have E := Lib.hid fun w => read_any (mk (hexk 8 a)) w z2
  rw [bl_mk, tagP_iff.2 ⟨ha, rfl⟩, tagV] at C
  rw [bl_mk, readP_iff.2 ⟨ha, .inl ⟨rfl, rfl⟩⟩, readV] at E
  have HL : Op.bytesLess (mk (hexk 8 a)).toList (mk (hexk 8 b)).toList = decide (a < b) := by
    rw [toList_bl, toList_bl, bl_mk, bl_mk]; exact less_tags ha hb
  obtain ⟨x, hx⟩ : ∃ x, x = mk (hexk 8 a) := ⟨_, rfl⟩
  obtain ⟨y, hy⟩ : ∃ y, y = mk (hexk 8 b) := ⟨_, rfl⟩
  rw [← hx] at A C E HL z
  rw [← hy] at B HL
  clear hx hy z2
  have hz : ((x.size : Int) == 8) = true := by simp [z]
  clear z
  by_cases hab : a < b
  · have h1 : ((a : Int) < (b : Int)) := by omega
    have h2 : Op.bytesLess x.toList y.toList = true := by rw [HL]; simp [hab]
    clear HL hab
    go_enter Try.func7, Try.ntmps7
    go_wp2_with fail
    refine (A.out _).mono ?_
    rintro e w0 ⟨rfl, q0⟩
    go_wp2_with fail
    refine (B.out _).mono ?_
    rintro e w1 ⟨rfl, q1⟩
    go_wp2_with fail
    refine (C.out _).mono ?_
    rintro e w2 ⟨rfl, rfl⟩
    go_wp2_with fail
    refine (E.out _).mono ?_
    rintro e w3 ⟨rfl, q3⟩
    go_wp2_with fail
    refine (awake_any _).mono ?_
    rintro e w9 ⟨rfl, q9⟩
    go_wp2
    go_ret
    exact ⟨rfl, ((q0.trans q1).trans q3).trans q9⟩
  · have h1 : ¬ ((a : Int) < (b : Int)) := by omega
    have h2 : Op.bytesLess x.toList y.toList = false := by rw [HL]; simp; omega
    have h3 : decide ((a : Int) < (b : Int)) = false := decide_eq_false h1
    have h4 : decide (a < b) = false := decide_eq_false hab
    clear HL hab
    go_enter Try.func7, Try.ntmps7
    go_wp2_with fail
    refine (A.out _).mono ?_
    rintro e w0 ⟨rfl, q0⟩
    go_wp2_with fail
    refine (B.out _).mono ?_
    rintro e w1 ⟨rfl, q1⟩
    go_wp2_with fail
    refine (C.out _).mono ?_
    rintro e w2 ⟨rfl, rfl⟩
    go_wp2_with fail
    refine (E.out _).mono ?_
    rintro e w3 ⟨rfl, q3⟩
    go_wp2_with fail
    refine (awake_any _).mono ?_
    rintro e w9 ⟨rfl, q9⟩
    go_wp2
    go_ret
    exact ⟨rfl, ((q0.trans q1).trans q3).trans q9⟩

set_option maxRecDepth 100000 in
theorem lifted (os : Os) (started : os.Started) (H : Type) (enc : TypeId × Value → H) :
    ReturnsInHanded {} Try.checked os 7 .any (Rows.tagSignsSpec.pre6 enc Try.prog Try.f7 Rows.tagSignsRow.domain false) (Rows.tagSignsSpec.post enc Try.prog Try.f7 false true false false) := by
  refine returnsInHanded_of_change (C := Try.checked) own started (by kernel_rfl) Try.func7
    (ChangeSpec.witness6 (enc := enc) (C := Try.checked) false ⟨#[], #[.int .u32 0, .int .u32 0], []⟩ 8 (by kernel_rfl) (by kernel_rfl) (by kernel_rfl) (by kernel_rfl)) ?_
  intro W base args ds gs before hval0 hW hcnd _
  have hval : ∀ (j : Nat) t v, Try.f7.params[j]? = some t → args[j]? = some v → Value.okWide Try.prog W .any base t v := hval0
  have hW' := hW
  obtain ⟨p, q, hA0, hV, rfl, hfz, hnd⟩ := hW
  have hA : DataW.TrodAll enc Try.prog W 0 (fun _ => true) true Try.f7.params.toList args.toList ds p := hA0
  rw [Try.params7] at hA hval
  obtain ⟨v0, vs0, d0, ds0, p0, q0, hargs, rfl, rfl, h0, r0⟩ := trodAll_cons hA
  obtain ⟨v1, vs1, d1, ds1, p1, q1, rfl, rfl, rfl, h1, r1⟩ := trodAll_cons r0
  obtain ⟨rfl, rfl, rfl⟩ := trodAll_nil r1
  obtain rfl : args = #[v0, v1] := by cases args; simp_all
  obtain ⟨rfl, rfl⟩ := trodVars_none hV
  clear hA0 hval0
  simp only [List.append_nil] at hW'
  have hlt : ∀ x ∈ p0 ++ p1, x.block < W.heap.size := fun x hx => by simpa using hW'.lt x (by simpa using hx)
  obtain ⟨a0, rfl, -, -, w0⟩ := open_int Try.underlying22 (hval 0 22 v0 rfl rfl) h0
  obtain ⟨a1, rfl, -, -, w1⟩ := open_int Try.underlying22 (hval 1 22 v1 rfl rfl) h1
  refine (walk a0 a1 w0 w1 W).mono fun e W' ⟨he, bel⟩ => ?_
  subst he
  refine ⟨_, rfl, _, _, _, [], _, [], hW', trodAll_mk1 (shut_bool Try.underlying4 _), (trodAll_cons_mk (Below.trod laid (by kernel_rfl) (of_decide_eq_true (by kernel_rfl)) h0 bel (fun x hx => hlt x (by simp [hx]))) (trodAll_cons_mk (Below.trod laid (by kernel_rfl) (of_decide_eq_true (by kernel_rfl)) h1 bel (fun x hx => hlt x (by simp [hx]))) trodAll_mk0)), rfl, Below.frame bel _, fun h => by cases h⟩

theorem over : Rows.tagSignsRow.holds Try.pinned (OpenSpec.ofChange Rows.tagSignsSpec) :=
  OpenClaim.holds_of_wide 7 Try.f7 rfl rfl rfl rfl rfl rfl rfl ⟨rfl, rfl, rfl, rfl, rfl⟩ rfl rfl rfl rfl rfl (by kernel_rfl) Try.func7 (by kernel_rfl)
    (of_decide_eq_true (by kernel_rfl)) (by unfold Func.isWrapper; first | (rw [if_pos (by decide +kernel)]; kernel_rfl) | (rw [if_neg (by decide +kernel)]; exact ⟨rfl, rfl⟩))
    (fun os started H enc _ => lifted os started H enc)

theorem proved : Rows.TagSignsSaid := over
#print axioms proved
end Go.Proofs.Ytffhpgdlnohgjaa.tagSigns
