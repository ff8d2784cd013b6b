/-
  Proved: whatever two texts BlockApart is called with, it returns true and leaves what it was given as it was. No condition.
-/
import Derived.Test.YtpcanlafbcdmcaaKAwk
import Derived.Test.YtpcanlafbcdmcaaCoreOpen
namespace Go.Proofs.Ytpcanlafbcdmcaa.blockApart
set_option maxRecDepth 100000
open Go.ChangeShapes Go.WideShapes Go.ChangeAt Go.RowKit
open Go.ChangeMaps (open_string shut_string)
set_option linter.unusedVariables false
set_option linter.unusedSimpArgs false

attribute [local irreducible] layK joinK fewK manyK cutK blksK allK scanV manyI
set_option maxHeartbeats 8000000 in
set_option maxRecDepth 100000 in
theorem walk (a0 a1 : ByteArray) (w0 : a0.size ≤ maxLen) (w1 : a1.size ≤ maxLen) (w : World) :
    Calls Try.prog 8 #[.string a0, .string a1] w fun e w' => e = .returned (.bool true) ∧ Q w w' := by
  have FS := Lib.hid fun w => few_any a0 w w0
  have FT := Lib.hid fun w => few_any a1 w w1
  have fs := fewK_le a0
  have ft := fewK_le a1
  obtain ⟨s, hs⟩ : ∃ s, s = fewK a0 := ⟨_, rfl⟩
  obtain ⟨t, ht⟩ : ∃ t, t = fewK a1 := ⟨_, rfl⟩
  rw [← hs] at FS fs
  rw [← ht] at FT ft
  clear hs ht w0 w1
  by_cases hs : 12000 < s.size
  · have LS := Lib.hid fun w => layNo_any s w hs
    by_cases ht : 12000 < t.size
    · have LT := Lib.hid fun w => layNo_any t w ht
      go_enter Try.func8, Try.ntmps8
      go_wp2_with fail
      refine (FS.out _).mono ?_
      rintro e x1 ⟨rfl, d1⟩
      go_wp2_with fail
      refine (FT.out _).mono ?_
      rintro e x2 ⟨rfl, d2⟩
      have Q2 := Lib.hid ((d1.trans d2).q)
      clear d1 d2
      go_wp2_with fail
      refine (LS.out _).mono ?_
      rintro e x3 ⟨rfl, q3⟩
      have Q3 := Lib.hid (Q2.out.trans q3)
      clear q3
      go_wp2_with fail
      refine (LT.out _).mono ?_
      rintro e x4 ⟨rfl, q4⟩
      have Q4 := Lib.hid (Q3.out.trans q4)
      clear q4
      go_wp2_with fail
      refine (awake_any _).mono ?_
      rintro e x9 ⟨rfl, q9⟩
      go_wp2_with fail
      go_ret
      exact ⟨rfl, (Q4.out).trans q9⟩
    · have LT := Lib.hid fun w => layYes_any t w (by omega)
      go_enter Try.func8, Try.ntmps8
      go_wp2_with fail
      refine (FS.out _).mono ?_
      rintro e x1 ⟨rfl, d1⟩
      go_wp2_with fail
      refine (FT.out _).mono ?_
      rintro e x2 ⟨rfl, d2⟩
      have Q2 := Lib.hid ((d1.trans d2).q)
      clear d1 d2
      go_wp2_with fail
      refine (LS.out _).mono ?_
      rintro e x3 ⟨rfl, q3⟩
      have Q3 := Lib.hid (Q2.out.trans q3)
      clear q3
      go_wp2_with fail
      refine (LT.out _).mono ?_
      rintro e x4 ⟨rfl, q4⟩
      have Q4 := Lib.hid (Q3.out.trans q4)
      clear q4
      go_wp2_with fail
      refine (awake_any _).mono ?_
      rintro e x9 ⟨rfl, q9⟩
      go_wp2_with fail
      go_ret
      exact ⟨rfl, (Q4.out).trans q9⟩
  · have LS := Lib.hid fun w => layYes_any s w (by omega)
    by_cases ht : 12000 < t.size
    · have LT := Lib.hid fun w => layNo_any t w ht
      go_enter Try.func8, Try.ntmps8
      go_wp2_with fail
      refine (FS.out _).mono ?_
      rintro e x1 ⟨rfl, d1⟩
      go_wp2_with fail
      refine (FT.out _).mono ?_
      rintro e x2 ⟨rfl, d2⟩
      have Q2 := Lib.hid ((d1.trans d2).q)
      clear d1 d2
      go_wp2_with fail
      refine (LS.out _).mono ?_
      rintro e x3 ⟨rfl, q3⟩
      have Q3 := Lib.hid (Q2.out.trans q3)
      clear q3
      go_wp2_with fail
      refine (LT.out _).mono ?_
      rintro e x4 ⟨rfl, q4⟩
      have Q4 := Lib.hid (Q3.out.trans q4)
      clear q4
      go_wp2_with fail
      refine (awake_any _).mono ?_
      rintro e x9 ⟨rfl, q9⟩
      go_wp2_with fail
      go_ret
      exact ⟨rfl, (Q4.out).trans q9⟩
    · have LT := Lib.hid fun w => layYes_any t w (by omega)
      have M := Lib.hid fun w => many_any (s.size : Int) w (by omega)
      rw [manyI_nat] at M
      have hA := joinK_size _ (layK_size s)
      rw [layK_length] at hA
      have hmk := manyK_le s.size
      have HI := Lib.hid (fun h => layB_inj (s := s) (t := t) (by omega) (by omega) h)
      have HH := Lib.hid (fun h1 h2 => layB_head (s := s) (t := t) (by omega) (by omega) h1 h2)
      obtain ⟨k, hk⟩ : ∃ k, k = manyK s.size := ⟨_, rfl⟩
      rw [← hk] at M hA hmk
      obtain ⟨A, hAA⟩ : ∃ A, A = joinK (layK s) := ⟨_, rfl⟩
      rw [← hAA] at LS hA HI HH
      clear hk
      by_cases hst : s = t
      · subst hst
        rw [← hAA] at LT
        have e5 : (64 : Int) * (k : Int) = (A.size : Int) := by omega
        have he1 : (A.toList == A.toList) = true := by simp
        have he2 : (s.toList == s.toList) = true := by simp
        clear hAA HI HH hA
        go_enter Try.func8, Try.ntmps8
        go_wp2_with fail
        refine (FS.out _).mono ?_
        rintro e x1 ⟨rfl, d1⟩
        go_wp2_with fail
        refine (FT.out _).mono ?_
        rintro e x2 ⟨rfl, d2⟩
        have Q2 := Lib.hid ((d1.trans d2).q)
        clear d1 d2
        go_wp2_with fail
        refine (LS.out _).mono ?_
        rintro e x3 ⟨rfl, q3⟩
        have Q3 := Lib.hid (Q2.out.trans q3)
        clear q3
        go_wp2_with fail
        refine (LT.out _).mono ?_
        rintro e x4 ⟨rfl, q4⟩
        have Q4 := Lib.hid (Q3.out.trans q4)
        clear q4
        go_wp2_with fail
        refine (M.out _).mono ?_
        rintro e x5 ⟨rfl, rfl⟩
        go_wp2_with fail
        refine (awake_any _).mono ?_
        rintro e x9 ⟨rfl, q9⟩
        go_wp2_with fail
        go_ret
        exact ⟨rfl, (Q4.out).trans q9⟩
      · obtain ⟨B, hBB⟩ : ∃ B, B = joinK (layK t) := ⟨_, rfl⟩
        rw [← hBB] at LT HI HH
        have hBs : B.size ≤ 20000 := by
          have := joinK_size _ (layK_size t)
          rw [layK_length] at this
          have := manyK_le t.size
          rw [hBB]; omega
        have e5 : (64 : Int) * (k : Int) = (A.size : Int) := by omega
        have he1 : (A.toList == B.toList) = false := key_ne fun h => hst (HI.out h)
        have he2 : (s.toList == t.toList) = false := key_ne hst
        clear hAA hBB HI hA
        by_cases hg : B.size < A.size
        · have hg1 : (B.size : Int) < (A.size : Int) := by omega
          have hg2 : decide (B.size < A.size) = true := by simp; omega
          clear HH
          go_enter Try.func8, Try.ntmps8
          go_wp2_with fail
          refine (FS.out _).mono ?_
          rintro e x1 ⟨rfl, d1⟩
          go_wp2_with fail
          refine (FT.out _).mono ?_
          rintro e x2 ⟨rfl, d2⟩
          have Q2 := Lib.hid ((d1.trans d2).q)
          clear d1 d2
          go_wp2_with fail
          refine (LS.out _).mono ?_
          rintro e x3 ⟨rfl, q3⟩
          have Q3 := Lib.hid (Q2.out.trans q3)
          clear q3
          go_wp2_with fail
          refine (LT.out _).mono ?_
          rintro e x4 ⟨rfl, q4⟩
          have Q4 := Lib.hid (Q3.out.trans q4)
          clear q4
          go_wp2_with fail
          refine (M.out _).mono ?_
          rintro e x5 ⟨rfl, rfl⟩
          go_wp2_with fail
          refine (awake_any _).mono ?_
          rintro e x9 ⟨rfl, q9⟩
          go_wp2_with fail
          go_ret
          exact ⟨rfl, (Q4.out).trans q9⟩
        · have hg1 : ¬ (B.size : Int) < (A.size : Int) := by omega
          have hg2 : decide (B.size < A.size) = false := by simp; omega
          have hg3 : (A.size : Int) ≤ (B.size : Int) := by omega
          have hg4 : A.size ≤ B.size := by omega
          have he3 : ((B.extract 0 A.size).toList == A.toList) = false := key_ne fun h => hst (HH.out hg4 h)
          clear HH
          go_enter Try.func8, Try.ntmps8
          go_wp2_with fail
          refine (FS.out _).mono ?_
          rintro e x1 ⟨rfl, d1⟩
          go_wp2_with fail
          refine (FT.out _).mono ?_
          rintro e x2 ⟨rfl, d2⟩
          have Q2 := Lib.hid ((d1.trans d2).q)
          clear d1 d2
          go_wp2_with fail
          refine (LS.out _).mono ?_
          rintro e x3 ⟨rfl, q3⟩
          have Q3 := Lib.hid (Q2.out.trans q3)
          clear q3
          go_wp2_with fail
          refine (LT.out _).mono ?_
          rintro e x4 ⟨rfl, q4⟩
          have Q4 := Lib.hid (Q3.out.trans q4)
          clear q4
          go_wp2_with fail
          refine (M.out _).mono ?_
          rintro e x5 ⟨rfl, rfl⟩
          go_wp2_with fail
          refine (awake_any _).mono ?_
          rintro e x9 ⟨rfl, q9⟩
          go_wp2_with fail
          go_ret
          exact ⟨rfl, (Q4.out).trans q9⟩

set_option maxRecDepth 100000 in
theorem lifted (os : Os) (started : os.Started) (H : Type) (enc : TypeId × Value → H) :
    ReturnsInHanded {} Try.checked os 8 .any (Rows.blockApartSpec.pre6 enc Try.prog Try.f8 Rows.blockApartRow.domain false) (Rows.blockApartSpec.post enc Try.prog Try.f8 false true false false) := by
  refine returnsInHanded_of_change (C := Try.checked) own started (by kernel_rfl) Try.func8
    (ChangeSpec.witness6 (enc := enc) (C := Try.checked) false ⟨#[], #[.string ByteArray.empty, .string ByteArray.empty], []⟩ 8 (by kernel_rfl) (by kernel_rfl) (by kernel_rfl) (by kernel_rfl)) ?_
  intro W base args ds gs before hval0 hW hcnd _
  have hval : ∀ (j : Nat) t v, Try.f8.params[j]? = some t → args[j]? = some v → Value.okWide Try.prog W .any base t v := hval0
  have hW' := hW
  obtain ⟨p, q, hA0, hV, rfl, hfz, hnd⟩ := hW
  have hA : DataW.TrodAll enc Try.prog W 0 (fun _ => true) true Try.f8.params.toList args.toList ds p := hA0
  rw [Try.params8] at hA hval
  obtain ⟨v0, vs0, d0, ds0, p0, q0, hargs, rfl, rfl, h0, r0⟩ := trodAll_cons hA
  obtain ⟨v1, vs1, d1, ds1, p1, q1, rfl, rfl, rfl, h1, r1⟩ := trodAll_cons r0
  obtain ⟨rfl, rfl, rfl⟩ := trodAll_nil r1
  obtain rfl : args = #[v0, v1] := by cases args; simp_all
  obtain ⟨rfl, rfl⟩ := trodVars_none hV
  clear hA0 hval0
  simp only [List.append_nil] at hW'
  have hlt : ∀ x ∈ p0 ++ p1, x.block < W.heap.size := fun x hx => by simpa using hW'.lt x (by simpa using hx)
  obtain ⟨a0, rfl, -, -, w0⟩ := open_string Try.underlying9 (hval 0 9 v0 rfl rfl) h0
  obtain ⟨a1, rfl, -, -, w1⟩ := open_string Try.underlying9 (hval 1 9 v1 rfl rfl) h1
  refine (walk a0 a1 w0 w1 W).mono fun e W' ⟨he, bel⟩ => ?_
  subst he
  refine ⟨_, rfl, _, _, _, [], _, [], hW', trodAll_mk1 (shut_bool Try.underlying4 _), (trodAll_cons_mk (Below.trod laid (by kernel_rfl) (of_decide_eq_true (by kernel_rfl)) h0 bel (fun x hx => hlt x (by simp [hx]))) (trodAll_cons_mk (Below.trod laid (by kernel_rfl) (of_decide_eq_true (by kernel_rfl)) h1 bel (fun x hx => hlt x (by simp [hx]))) trodAll_mk0)), rfl, Below.frame bel _, fun h => by cases h⟩

theorem over : Rows.blockApartRow.holds Try.pinned (OpenSpec.ofChange Rows.blockApartSpec) :=
  OpenClaim.holds_of_wide 8 Try.f8 rfl rfl rfl rfl rfl rfl rfl ⟨rfl, rfl, rfl, rfl, rfl⟩ rfl rfl rfl rfl rfl (by kernel_rfl) Try.func8 (by kernel_rfl)
    (of_decide_eq_true (by kernel_rfl)) (by unfold Func.isWrapper; first | (rw [if_pos (by decide +kernel)]; kernel_rfl) | (rw [if_neg (by decide +kernel)]; exact ⟨rfl, rfl⟩))
    (fun os started H enc _ => lifted os started H enc)

theorem proved : Rows.BlockApartSaid := over
#print axioms proved
end Go.Proofs.Ytpcanlafbcdmcaa.blockApart
