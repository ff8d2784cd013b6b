/-
  Proved: whatever text and number TagCuts is called with, it returns true and leaves what it was given as it was. No condition.
-/
import Derived.Test.YtffhpgdlnohgjaaTAwake
namespace Go.Proofs.Ytffhpgdlnohgjaa.tagCuts
open Go.ChangeShapes Go.WideShapes Go.ChangeAt Go.RowKit
open Go.ChangeMaps (open_string shut_string)
set_option linter.unusedVariables false

attribute [local irreducible] few crc more reg manyP hexk cnt
set_option maxHeartbeats 4000000 in
set_option maxRecDepth 100000 in
theorem walk (d : ByteArray) (t : Int) (w0 : d.size ≤ maxLen) (w1 : (Lit.int .u16 t).wf = true) (w : World) :
    Calls Try.prog 5 #[.string d, .int .u16 t] w fun e w' => e = .returned (.bool true) ∧ Q w w' := by
  obtain ⟨n, rfl, hn⟩ := wf16 w1
  clear w1
  have fs := few_size d
  have F := Lib.hid fun w => few_any d w w0
  obtain ⟨D, hD⟩ : ∃ D, D = few d := ⟨_, rfl⟩
  rw [← hD] at fs F
  clear hD
  have hD0 : D.size ≤ 5000 := by omega
  obtain ⟨k, hk⟩ : ∃ k, k = n % (D.size + 1) := ⟨_, rfl⟩
  have hk1 : k < D.size + 1 := by rw [hk]; exact Nat.mod_lt _ (by omega)
  have ek : (n : Int) % ((D.size : Int) + 1) = (k : Int) := by rw [hk, Int.natCast_emod]; rfl
  have z1 : (D.extract 0 k).size ≤ 5000 := by rw [size_cut _ (by omega)]; omega
  have z2 : (D.extract k D.size).size ≤ 5000 := by rw [size_cut _ (by omega)]; omega
  have e1 : bl (D.extract 0 k) = (bl D).take k := by rw [bl_extract, List.drop_zero, Nat.sub_zero]
  have e2 : bl (D.extract k D.size) = (bl D).drop k := by rw [bl_extract, List.take_of_length_le (by rw [List.length_drop, bl_length]; omega)]
  have A := Lib.hid fun w => of_any (D.extract 0 k) w z1
  rw [e1] at A
  have B := Lib.hid fun w => more_any (crc ((bl D).take k)) (D.extract k D.size) w (crc_lt _) z2
  rw [e2, more_crc, List.take_append_drop] at B
  have C := Lib.hid fun w => of_any D w hD0
  have E := Lib.hid fun w => more_any (crc (bl D)) ⟨#[]⟩ w (crc_lt _) (by decide)
  rw [more_crc, show bl ⟨#[]⟩ = [] by rfl, List.append_nil] at E
  obtain ⟨x, hx⟩ : ∃ x, x = crc ((bl D).take k) := ⟨_, rfl⟩
  obtain ⟨y, hy⟩ : ∃ y, y = crc (bl D) := ⟨_, rfl⟩
  rw [← hx] at A B
  rw [← hy] at B C E
  have k1 : (k : Int) ≤ (D.size : Int) := by omega
  clear w0 fs z1 z2 e1 e2 hx hy hk
  go_enter Try.func5, Try.ntmps5
  go_wp2_with fail
  refine (F.out _).mono ?_
  rintro e w0 ⟨rfl, rfl⟩
  go_wp2
  refine wp_region_quiet_lit (by kernel_rfl) (by kernel_rfl) ?_
  iterate 23 quiet_step ((first | with_reducible exact quiet_left (A.out _) | with_reducible exact quiet_left (B.out _) | with_reducible exact quiet_left (C.out _) | with_reducible exact quiet_left (E.out _) | exact quiet_d (awake_d _)))
  refine wpQuiet_nil ?_
  rintro _ ⟨nq, rfl⟩
  go_wp2
  go_ret
  exact ⟨rfl, (Q.refl _).drewN _⟩

set_option maxRecDepth 100000 in
theorem lifted (os : Os) (started : os.Started) (H : Type) (enc : TypeId × Value → H) :
    ReturnsInHanded {} Try.checked os 5 .any (Rows.tagCutsSpec.pre6 enc Try.prog Try.f5 Rows.tagCutsRow.domain false) (Rows.tagCutsSpec.post enc Try.prog Try.f5 false true false false) := by
  refine returnsInHanded_of_change (C := Try.checked) own started (by kernel_rfl) Try.func5
    (ChangeSpec.witness6 (enc := enc) (C := Try.checked) false ⟨#[], #[.string ByteArray.empty, .int .u16 0], []⟩ 8 (by kernel_rfl) (by kernel_rfl) (by kernel_rfl) (by kernel_rfl)) ?_
  intro W base args ds gs before hval0 hW hcnd _
  have hval : ∀ (j : Nat) t v, Try.f5.params[j]? = some t → args[j]? = some v → Value.okWide Try.prog W .any base t v := hval0
  have hW' := hW
  obtain ⟨p, q, hA0, hV, rfl, hfz, hnd⟩ := hW
  have hA : DataW.TrodAll enc Try.prog W 0 (fun _ => true) true Try.f5.params.toList args.toList ds p := hA0
  rw [Try.params5] at hA hval
  obtain ⟨v0, vs0, d0, ds0, p0, q0, hargs, rfl, rfl, h0, r0⟩ := trodAll_cons hA
  obtain ⟨v1, vs1, d1, ds1, p1, q1, rfl, rfl, rfl, h1, r1⟩ := trodAll_cons r0
  obtain ⟨rfl, rfl, rfl⟩ := trodAll_nil r1
  obtain rfl : args = #[v0, v1] := by cases args; simp_all
  obtain ⟨rfl, rfl⟩ := trodVars_none hV
  clear hA0 hval0
  simp only [List.append_nil] at hW'
  have hlt : ∀ x ∈ p0 ++ p1, x.block < W.heap.size := fun x hx => by simpa using hW'.lt x (by simpa using hx)
  obtain ⟨a0, rfl, -, -, w0⟩ := open_string Try.underlying9 (hval 0 9 v0 rfl rfl) h0
  obtain ⟨a1, rfl, -, -, w1⟩ := open_int Try.underlying43 (hval 1 43 v1 rfl rfl) h1
  refine (walk a0 a1 w0 w1 W).mono fun e W' ⟨he, bel⟩ => ?_
  subst he
  refine ⟨_, rfl, _, _, _, [], _, [], hW', trodAll_mk1 (shut_bool Try.underlying4 _), (trodAll_cons_mk (Below.trod laid (by kernel_rfl) (of_decide_eq_true (by kernel_rfl)) h0 bel (fun x hx => hlt x (by simp [hx]))) (trodAll_cons_mk (Below.trod laid (by kernel_rfl) (of_decide_eq_true (by kernel_rfl)) h1 bel (fun x hx => hlt x (by simp [hx]))) trodAll_mk0)), rfl, Below.frame bel _, fun h => by cases h⟩

theorem over : Rows.tagCutsRow.holds Try.pinned (OpenSpec.ofChange Rows.tagCutsSpec) :=
  OpenClaim.holds_of_wide 5 Try.f5 rfl rfl rfl rfl rfl rfl rfl ⟨rfl, rfl, rfl, rfl, rfl⟩ rfl rfl rfl rfl rfl (by kernel_rfl) Try.func5 (by kernel_rfl)
    (of_decide_eq_true (by kernel_rfl)) (by unfold Func.isWrapper; first | (rw [if_pos (by decide +kernel)]; kernel_rfl) | (rw [if_neg (by decide +kernel)]; exact ⟨rfl, rfl⟩))
    (fun os started H enc _ => lifted os started H enc)

theorem proved : Rows.TagCutsSaid := over
#print axioms proved
end Go.Proofs.Ytffhpgdlnohgjaa.tagCuts
