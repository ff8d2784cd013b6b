/-
  Proved: whatever text and number BlockLays is called with, it returns true and leaves what it was given as it was. No condition.
-/
import Derived.Test.YtpcanlafbcdmcaaKAwk
import Derived.Test.YtpcanlafbcdmcaaCoreOpen
namespace Go.Proofs.Ytpcanlafbcdmcaa.blockLays
set_option maxRecDepth 100000
open Go.ChangeShapes Go.WideShapes Go.ChangeAt Go.RowKit
open Go.ChangeMaps (open_string shut_string)
set_option linter.unusedVariables false
set_option linter.unusedSimpArgs false

theorem wf64 {a : Int} (h : (Lit.int .i64 a).wf = true) : -9223372036854775808 ≤ a ∧ a ≤ 9223372036854775807 := by
  simpa [Lit.wf, IntKind.min, IntKind.max, IntKind.signed, IntKind.bits] using h
attribute [local irreducible] layK joinK fewK manyK cutK blksK allK scanV manyI
set_option maxHeartbeats 8000000 in
set_option maxRecDepth 100000 in
theorem walk (a0 : ByteArray) (a1 : Int) (w0 : a0.size ≤ maxLen) (w1 : (Lit.int .i64 a1).wf = true) (w : World) :
    Calls Try.prog 3 #[.string a0, .int .i64 a1] w fun e w' => e = .returned (.bool true) ∧ Q w w' := by
  have b1 := wf64 w1
  clear w1
  have FS := Lib.hid fun w => few_any a0 w w0
  have fs := fewK_le a0
  obtain ⟨s, hs⟩ : ∃ s, s = fewK a0 := ⟨_, rfl⟩
  rw [← hs] at FS fs
  clear hs w0
  have MN := Lib.hid fun w => many_any a1 w b1
  have RN := Lib.hid fun w => rmany_any a1 w b1
  obtain ⟨q, hq⟩ : ∃ q, q = manyI a1 := ⟨_, rfl⟩
  rw [← hq] at MN RN
  clear hq
  have MS := Lib.hid fun w => many_any (s.size : Int) w (by omega)
  have RS := Lib.hid fun w => rmany_any (s.size : Int) w (by omega)
  obtain ⟨k, hk⟩ : ∃ k, k = manyI (s.size : Int) := ⟨_, rfl⟩
  rw [← hk] at MS RS
  clear hk b1
  have n1 : ((q : Int) != (q : Int)) = false := by simp
  have n2 : ((k : Int) != (k : Int)) = false := by simp
  by_cases hs : 12000 < s.size
  · have LS := Lib.hid fun w => layNo_any s w hs
    have hsi : (12000 : Int) < (s.size : Int) := by omega
    have n0 : (⟨#[]⟩ : ByteArray).toList = [] := by kernel_rfl
    clear hs
    go_enter Try.func3, Try.ntmps3
    go_wp2_with fail
    refine (FS.out _).mono ?_
    rintro e x1 ⟨rfl, d1⟩
    have Q1 := Lib.hid d1.q
    clear d1
    go_wp2_with fail
    refine (LS.out _).mono ?_
    rintro e x3 ⟨rfl, q3⟩
    have Q3 := Lib.hid (Q1.out.trans q3)
    clear q3
    go_wp2_with fail
    refine (MN.out _).mono ?_
    rintro e x4 ⟨rfl, rfl⟩
    go_wp2_with fail
    refine (RN.out _).mono ?_
    rintro e x5 ⟨rfl, d5⟩
    have Q5 := Lib.hid (Q3.out.trans d5.q)
    clear d5
    go_wp2_with fail
    refine (MS.out _).mono ?_
    rintro e x6 ⟨rfl, rfl⟩
    go_wp2_with fail
    refine (RS.out _).mono ?_
    rintro e x7 ⟨rfl, d7⟩
    have Q7 := Lib.hid (Q5.out.trans d7.q)
    clear d7
    go_wp2_with fail
    refine (awake_any _).mono ?_
    rintro e x9 ⟨rfl, q9⟩
    go_wp2_with fail
    go_ret
    exact ⟨rfl, (Q7.out).trans q9⟩
  · have hs12 : s.size ≤ 12000 := by omega
    have LS := Lib.hid fun w => layYes_any s w hs12
    have RL := Lib.hid fun w => rlay_any s w hs12
    have hsi : ¬ (12000 : Int) < (s.size : Int) := by omega
    have SV : Hid (scanV (layK s) = ([s], 0, 0)) := Lib.hid (scanV_of (layK_size s) (by
      have := all_lay [s] (fun x hx => by rw [List.mem_singleton.1 hx]; exact hs12)
      rw [List.flatMap_singleton] at this
      exact this))
    have LZ := Lib.hid (layK_size s)
    have hll : (layK s).length ≤ 201 := by rw [layK_length]; exact manyK_le _
    obtain ⟨A, hA⟩ : ∃ A, A = joinK (layK s) := ⟨_, rfl⟩
    rw [← hA] at LS
    have HA := Lib.hid hA
    obtain ⟨l, hl⟩ : ∃ l, l = layK s := ⟨_, rfl⟩
    rw [← hl] at RL SV LZ hll HA
    have he1 : (A.toList == A.toList) = true := by simp
    clear hA hl hs
    go_enter Try.func3, Try.ntmps3
    go_wp2_with fail
    refine (FS.out _).mono ?_
    rintro e x1 ⟨rfl, d1⟩
    have Q1 := Lib.hid d1.q
    clear d1
    go_wp2_with fail
    refine (LS.out _).mono ?_
    rintro e x3 ⟨rfl, q3⟩
    have Q3 := Lib.hid (Q1.out.trans q3)
    clear q3
    go_wp2_with fail
    refine (MN.out _).mono ?_
    rintro e x4 ⟨rfl, rfl⟩
    go_wp2_with fail
    refine (RN.out _).mono ?_
    rintro e x5 ⟨rfl, d5⟩
    have Q5 := Lib.hid (Q3.out.trans d5.q)
    clear d5
    go_wp2_with fail
    refine (MS.out _).mono ?_
    rintro e x6 ⟨rfl, rfl⟩
    go_wp2_with fail
    refine (RS.out _).mono ?_
    rintro e x7 ⟨rfl, d7⟩
    have Q7 := Lib.hid (Q5.out.trans d7.q)
    clear d7
    go_wp2_with fail
    refine (RL.out _).mono ?_
    rintro e x8 ⟨A8, c8, rfl, o8, q8⟩
    have O8 := Lib.hid o8
    have Q8 := Lib.hid (Q7.out.trans q8)
    clear q8 o8
    have SC := Lib.hid (scan_any l (.slice A8 l.length c8) x8 (by omega) O8.out.tcs)
    obtain ⟨N8, hN8⟩ : ∃ N8, N8 = l.length := ⟨_, rfl⟩
    rw [← hN8] at SC O8 ⊢
    have HN8 := Lib.hid hN8
    clear hN8
    go_wp2_with fail
    refine SC.out.mono ?_
    rintro e x9 ⟨A9, c9, rfl, t9, q9⟩
    rw [SV.out] at t9 ⊢
    have T9 := Lib.hid t9.txts
    have Q9 := Lib.hid (Q8.out.trans q9)
    have QQ9 := Lib.hid q9
    clear q9 t9
    have JC := Lib.hid (join_any l (.slice A8 N8 c8) x9 (by omega) (fun b hb => by have := LZ.out b hb; omega) (O8.out.tcs.txts.on QQ9.out))
    rw [← HA.out] at JC
    go_wp2_with fail
    refine JC.out.mono ?_
    rintro e x10 ⟨rfl, d10⟩
    have Q10 := Lib.hid (Q9.out.trans d10.q)
    have T10 := Lib.hid ((T9.out.on d10.q).on ((Q.refl x10).alloc (.cells #[.string s] 9)))
    have O10 := Lib.hid (OwnT.one x10 x10.heap.size s (Nat.le_refl _)).tcs.txts
    have SM := Lib.hid (rsame_any [s] [s] _ _ _ (by simp) (by simp) T10.out O10.out)
    rw [show decide ([s] = [s]) = true by simp] at SM
    clear d10
    go_wp2_with fail
    refine SM.out.mono ?_
    rintro e x11 ⟨rfl, q11⟩
    have Q11 := Lib.hid ((Q10.out.trans ((Q.refl x10).alloc _)).trans q11)
    clear q11
    go_wp2_with fail
    refine (awake_any _).mono ?_
    rintro e x12 ⟨rfl, q12⟩
    go_wp2_with fail
    go_ret
    exact ⟨rfl, (Q11.out).trans q12⟩

set_option maxRecDepth 100000 in
theorem lifted (os : Os) (started : os.Started) (H : Type) (enc : TypeId × Value → H) :
    ReturnsInHanded {} Try.checked os 3 .any (Rows.blockLaysSpec.pre6 enc Try.prog Try.f3 Rows.blockLaysRow.domain false) (Rows.blockLaysSpec.post enc Try.prog Try.f3 false true false false) := by
  refine returnsInHanded_of_change (C := Try.checked) own started (by kernel_rfl) Try.func3
    (ChangeSpec.witness6 (enc := enc) (C := Try.checked) false ⟨#[], #[.string ByteArray.empty, .int .i64 0], []⟩ 8 (by kernel_rfl) (by kernel_rfl) (by kernel_rfl) (by kernel_rfl)) ?_
  intro W base args ds gs before hval0 hW hcnd _
  have hval : ∀ (j : Nat) t v, Try.f3.params[j]? = some t → args[j]? = some v → Value.okWide Try.prog W .any base t v := hval0
  have hW' := hW
  obtain ⟨p, q, hA0, hV, rfl, hfz, hnd⟩ := hW
  have hA : DataW.TrodAll enc Try.prog W 0 (fun _ => true) true Try.f3.params.toList args.toList ds p := hA0
  rw [Try.params3] at hA hval
  obtain ⟨v0, vs0, d0, ds0, p0, q0, hargs, rfl, rfl, h0, r0⟩ := trodAll_cons hA
  obtain ⟨v1, vs1, d1, ds1, p1, q1, rfl, rfl, rfl, h1, r1⟩ := trodAll_cons r0
  obtain ⟨rfl, rfl, rfl⟩ := trodAll_nil r1
  obtain rfl : args = #[v0, v1] := by cases args; simp_all
  obtain ⟨rfl, rfl⟩ := trodVars_none hV
  clear hA0 hval0
  simp only [List.append_nil] at hW'
  have hlt : ∀ x ∈ p0 ++ p1, x.block < W.heap.size := fun x hx => by simpa using hW'.lt x (by simpa using hx)
  obtain ⟨a0, rfl, -, -, w0⟩ := open_string Try.underlying9 (hval 0 9 v0 rfl rfl) h0
  obtain ⟨a1, rfl, -, -, w1⟩ := open_int Try.underlying3 (hval 1 3 v1 rfl rfl) h1
  refine (walk a0 a1 w0 w1 W).mono fun e W' ⟨he, bel⟩ => ?_
  subst he
  refine ⟨_, rfl, _, _, _, [], _, [], hW', trodAll_mk1 (shut_bool Try.underlying4 _), (trodAll_cons_mk (Below.trod laid (by kernel_rfl) (of_decide_eq_true (by kernel_rfl)) h0 bel (fun x hx => hlt x (by simp [hx]))) (trodAll_cons_mk (Below.trod laid (by kernel_rfl) (of_decide_eq_true (by kernel_rfl)) h1 bel (fun x hx => hlt x (by simp [hx]))) trodAll_mk0)), rfl, Below.frame bel _, fun h => by cases h⟩

theorem over : Rows.blockLaysRow.holds Try.pinned (OpenSpec.ofChange Rows.blockLaysSpec) :=
  OpenClaim.holds_of_wide 3 Try.f3 rfl rfl rfl rfl rfl rfl rfl ⟨rfl, rfl, rfl, rfl, rfl⟩ rfl rfl rfl rfl rfl (by kernel_rfl) Try.func3 (by kernel_rfl)
    (of_decide_eq_true (by kernel_rfl)) (by unfold Func.isWrapper; first | (rw [if_pos (by decide +kernel)]; kernel_rfl) | (rw [if_neg (by decide +kernel)]; exact ⟨rfl, rfl⟩))
    (fun os started H enc _ => lifted os started H enc)

theorem proved : Rows.BlockLaysSaid := over
#print axioms proved
end Go.Proofs.Ytpcanlafbcdmcaa.blockLays
