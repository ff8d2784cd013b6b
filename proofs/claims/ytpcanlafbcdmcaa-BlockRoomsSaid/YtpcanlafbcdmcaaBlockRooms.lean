/-
  Proved: whatever two numbers BlockRooms is called with, it returns true. No condition.
-/
import Derived.Test.YtpcanlafbcdmcaaKAwk
import Derived.Test.YtpcanlafbcdmcaaCoreOpen
namespace Go.Proofs.Ytpcanlafbcdmcaa.blockRooms
set_option maxRecDepth 100000
open Go.ChangeShapes Go.WideShapes Go.ChangeAt Go.RowKit
open Go.ChangeMaps (open_string shut_string)
set_option linter.unusedVariables false
set_option linter.unusedSimpArgs false

theorem wf64 {a : Int} (h : (Lit.int .i64 a).wf = true) : -9223372036854775808 ≤ a ∧ a ≤ 9223372036854775807 := by
  simpa [Lit.wf, IntKind.min, IntKind.max, IntKind.signed, IntKind.bits] using h
attribute [local irreducible] layK joinK fewK manyK cutK blksK allK scanV manyI
set_option maxHeartbeats 8000000 in
set_option maxRecDepth 100000 in
theorem walk (a0 a1 : Int) (w0 : (Lit.int .i64 a0).wf = true) (w1 : (Lit.int .i64 a1).wf = true) (w : World) :
    Calls Try.prog 7 #[.int .i64 a0, .int .i64 a1] w fun e w' => e = .returned (.bool true) ∧ Q w w' := by
  have b0 := wf64 w0
  have b1 := wf64 w1
  clear w0 w1
  have MN := Lib.hid fun w => many_any a0 w b0
  by_cases h0 : a0 < 0
  · rw [show manyI a0 = 0 from by unfold manyI; rw [if_neg (by omega)]] at MN
    go_enter Try.func7, Try.ntmps7
    go_wp2_with fail
    refine (MN.out _).mono ?_
    rintro e x1 ⟨rfl, rfl⟩
    go_wp2_with fail
    refine (awake_any _).mono ?_
    rintro e x9 ⟨rfl, q9⟩
    go_wp2_with fail
    go_ret
    exact ⟨rfl, (Q.refl _).trans q9⟩
  · by_cases h1 : 12000 < a0
    · rw [show manyI a0 = 0 from by unfold manyI manyK; rw [if_pos (by omega), if_neg (by omega)]] at MN
      go_enter Try.func7, Try.ntmps7
      go_wp2_with fail
      refine (MN.out _).mono ?_
      rintro e x1 ⟨rfl, rfl⟩
      go_wp2_with fail
      refine (awake_any _).mono ?_
      rintro e x9 ⟨rfl, q9⟩
      go_wp2_with fail
      go_ret
      exact ⟨rfl, (Q.refl _).trans q9⟩
    · obtain ⟨n, rfl⟩ : ∃ n : Nat, a0 = n := ⟨a0.toNat, by omega⟩
      rw [manyI_nat] at MN
      have hp := manyK_pos (n := n) (by omega)
      have hr := manyK_room (n := n) (by omega)
      have hl := manyK_low (n := n) (by omega)
      have hkl := manyK_le n
      have MM := Lib.hid fun w => many_any a1 w b1
      have HM : Hid (¬ a1 < (n : Int) → ¬ 12000 < a1 → manyK n ≤ manyI a1) := Lib.hid (fun g1 g2 => by
        unfold manyI manyK
        rw [if_pos (by omega), if_pos (by omega), if_pos (by omega)]
        omega)
      have HR : Hid (∀ r, r = 60 * manyK n - 2 → r < 12000 → manyK r = manyK n ∧ manyK (r + 1) = manyK n + 1) := Lib.hid (fun r g1 g2 => by
        have e : manyK n = (n + 61) / 60 := by unfold manyK; rw [if_pos (by omega)]
        have e2 : manyK r = (r + 61) / 60 := by unfold manyK; rw [if_pos (by omega)]
        have e3 : manyK (r + 1) = (r + 1 + 61) / 60 := by unfold manyK; rw [if_pos (by omega)]
        rw [e2, e3]
        omega)
      have hmm : manyI a1 ≤ 201 := by
        unfold manyI
        split
        · exact manyK_le _
        · omega
      obtain ⟨k, hk⟩ : ∃ k, k = manyK n := ⟨_, rfl⟩
      rw [← hk] at MN hp hr hl hkl HM HR
      obtain ⟨q, hq⟩ : ∃ q, q = manyI a1 := ⟨_, rfl⟩
      rw [← hq] at MM HM hmm
      clear hk hq
      obtain ⟨r, hrr⟩ : ∃ r, r = 60 * k - 2 := ⟨_, rfl⟩
      have MR := Lib.hid fun w => many_any (r : Int) w (by omega)
      have MR1 := Lib.hid fun w => many_any ((r : Int) + 1) w (by omega)
      rw [manyI_nat] at MR
      rw [show ((r : Int) + 1) = ((r + 1 : Nat) : Int) by omega, manyI_nat] at MR1
      have HR2 := Lib.hid (HR.out r hrr)
      have e1 : (58 : Int) + 60 * ((k : Int) - 1) = (r : Int) := by omega
      have f0 : ¬ (n : Int) < 0 := by omega
      have f1 : ¬ (12000 : Int) < (n : Int) := by omega
      have f1' : decide (12000 < n) = false := by simp; omega
      have f2 : ¬ (k : Int) < 1 := by omega
      have f2' : decide (k < 1) = false := by simp; omega
      have f3 : ¬ (r : Int) < (n : Int) := by omega
      have f3' : decide (r < n) = false := by simp; omega
      have f4 : ¬ (n : Int) ≤ (r : Int) - 60 := by omega
      have e6 : ((k : Int) == 0) = false := beq_false_of_ne (by omega)
      have HRR := Lib.hid hrr
      clear hrr HR h0 h1
      by_cases g1 : 1 < k
      · have g1i : (1 : Int) < (k : Int) := by omega
        have g1d : decide (1 < k) = true := by simp; omega
        by_cases g2 : 12000 ≤ r
        · have g2i : (12000 : Int) ≤ (r : Int) := by omega
          have g2d : decide (12000 ≤ r) = true := by simp; omega
          clear HR2 MR MR1
          by_cases g3 : a1 < (n : Int)
          · have g3d : decide (a1 < (n : Int)) = true := by simpa using g3
            clear MM HM
            go_enter Try.func7, Try.ntmps7
            go_wp2_with fail
            refine (MN.out _).mono ?_
            rintro e x1 ⟨rfl, rfl⟩
            go_wp2_with fail
            refine (awake_any _).mono ?_
            rintro e x9 ⟨rfl, q9⟩
            go_wp2_with fail
            go_ret
            exact ⟨rfl, (Q.refl _).trans q9⟩
          · by_cases g4 : 12000 < a1
            · have g3d : decide (a1 < (n : Int)) = false := by simpa using g3
              have g4d : decide (12000 < a1) = true := by simpa using g4
              clear MM HM
              go_enter Try.func7, Try.ntmps7
              go_wp2_with fail
              refine (MN.out _).mono ?_
              rintro e x1 ⟨rfl, rfl⟩
              go_wp2_with fail
              refine (awake_any _).mono ?_
              rintro e x9 ⟨rfl, q9⟩
              go_wp2_with fail
              go_ret
              exact ⟨rfl, (Q.refl _).trans q9⟩
            · have g3d : decide (a1 < (n : Int)) = false := by simpa using g3
              have g4d : decide (12000 < a1) = false := by simpa using g4
              have g5 := HM.out g3 g4
              have g5i : (k : Int) ≤ (q : Int) := by omega
              clear HM
              go_enter Try.func7, Try.ntmps7
              go_wp2_with fail
              refine (MN.out _).mono ?_
              rintro e x1 ⟨rfl, rfl⟩
              go_wp2_with fail
              refine (MM.out _).mono ?_
              rintro e x4 ⟨rfl, rfl⟩
              go_wp2_with fail
              refine (awake_any _).mono ?_
              rintro e x9 ⟨rfl, q9⟩
              go_wp2_with fail
              go_ret
              exact ⟨rfl, (Q.refl _).trans q9⟩
        · have g2i : ¬ (12000 : Int) ≤ (r : Int) := by omega
          have g2d : decide (12000 ≤ r) = false := by simp; omega
          obtain ⟨hr1, hr2⟩ := HR2.out (by omega)
          rw [hr1] at MR
          rw [hr2] at MR1
          have e7 : ((k : Int) == (k : Int)) = true := by simp
          clear HR2 hr1 hr2
          by_cases g3 : a1 < (n : Int)
          · have g3d : decide (a1 < (n : Int)) = true := by simpa using g3
            clear MM HM
            go_enter Try.func7, Try.ntmps7
            go_wp2_with fail
            refine (MN.out _).mono ?_
            rintro e x1 ⟨rfl, rfl⟩
            go_wp2_with fail
            refine (MR.out _).mono ?_
            rintro e x2 ⟨rfl, rfl⟩
            go_wp2_with fail
            refine (MR1.out _).mono ?_
            rintro e x3 ⟨rfl, rfl⟩
            go_wp2_with fail
            refine (awake_any _).mono ?_
            rintro e x9 ⟨rfl, q9⟩
            go_wp2_with fail
            go_ret
            exact ⟨rfl, (Q.refl _).trans q9⟩
          · by_cases g4 : 12000 < a1
            · have g3d : decide (a1 < (n : Int)) = false := by simpa using g3
              have g4d : decide (12000 < a1) = true := by simpa using g4
              clear MM HM
              go_enter Try.func7, Try.ntmps7
              go_wp2_with fail
              refine (MN.out _).mono ?_
              rintro e x1 ⟨rfl, rfl⟩
              go_wp2_with fail
              refine (MR.out _).mono ?_
              rintro e x2 ⟨rfl, rfl⟩
              go_wp2_with fail
              refine (MR1.out _).mono ?_
              rintro e x3 ⟨rfl, rfl⟩
              go_wp2_with fail
              refine (awake_any _).mono ?_
              rintro e x9 ⟨rfl, q9⟩
              go_wp2_with fail
              go_ret
              exact ⟨rfl, (Q.refl _).trans q9⟩
            · have g3d : decide (a1 < (n : Int)) = false := by simpa using g3
              have g4d : decide (12000 < a1) = false := by simpa using g4
              have g5 := HM.out g3 g4
              have g5i : (k : Int) ≤ (q : Int) := by omega
              clear HM
              go_enter Try.func7, Try.ntmps7
              go_wp2_with fail
              refine (MN.out _).mono ?_
              rintro e x1 ⟨rfl, rfl⟩
              go_wp2_with fail
              refine (MR.out _).mono ?_
              rintro e x2 ⟨rfl, rfl⟩
              go_wp2_with fail
              refine (MR1.out _).mono ?_
              rintro e x3 ⟨rfl, rfl⟩
              go_wp2_with fail
              refine (MM.out _).mono ?_
              rintro e x4 ⟨rfl, rfl⟩
              go_wp2_with fail
              refine (awake_any _).mono ?_
              rintro e x9 ⟨rfl, q9⟩
              go_wp2_with fail
              go_ret
              exact ⟨rfl, (Q.refl _).trans q9⟩
      · have g1i : ¬ (1 : Int) < (k : Int) := by omega
        have g1d : decide (1 < k) = false := by simp; omega
        by_cases g2 : 12000 ≤ r
        · exfalso; have := HRR.out; omega
        · have g2i : ¬ (12000 : Int) ≤ (r : Int) := by omega
          have g2d : decide (12000 ≤ r) = false := by simp; omega
          obtain ⟨hr1, hr2⟩ := HR2.out (by omega)
          rw [hr1] at MR
          rw [hr2] at MR1
          have e7 : ((k : Int) == (k : Int)) = true := by simp
          clear HR2 hr1 hr2
          by_cases g3 : a1 < (n : Int)
          · have g3d : decide (a1 < (n : Int)) = true := by simpa using g3
            clear MM HM
            go_enter Try.func7, Try.ntmps7
            go_wp2_with fail
            refine (MN.out _).mono ?_
            rintro e x1 ⟨rfl, rfl⟩
            go_wp2_with fail
            refine (MR.out _).mono ?_
            rintro e x2 ⟨rfl, rfl⟩
            go_wp2_with fail
            refine (MR1.out _).mono ?_
            rintro e x3 ⟨rfl, rfl⟩
            go_wp2_with fail
            refine (awake_any _).mono ?_
            rintro e x9 ⟨rfl, q9⟩
            go_wp2_with fail
            go_ret
            exact ⟨rfl, (Q.refl _).trans q9⟩
          · by_cases g4 : 12000 < a1
            · have g3d : decide (a1 < (n : Int)) = false := by simpa using g3
              have g4d : decide (12000 < a1) = true := by simpa using g4
              clear MM HM
              go_enter Try.func7, Try.ntmps7
              go_wp2_with fail
              refine (MN.out _).mono ?_
              rintro e x1 ⟨rfl, rfl⟩
              go_wp2_with fail
              refine (MR.out _).mono ?_
              rintro e x2 ⟨rfl, rfl⟩
              go_wp2_with fail
              refine (MR1.out _).mono ?_
              rintro e x3 ⟨rfl, rfl⟩
              go_wp2_with fail
              refine (awake_any _).mono ?_
              rintro e x9 ⟨rfl, q9⟩
              go_wp2_with fail
              go_ret
              exact ⟨rfl, (Q.refl _).trans q9⟩
            · have g3d : decide (a1 < (n : Int)) = false := by simpa using g3
              have g4d : decide (12000 < a1) = false := by simpa using g4
              have g5 := HM.out g3 g4
              have g5i : (k : Int) ≤ (q : Int) := by omega
              clear HM
              go_enter Try.func7, Try.ntmps7
              go_wp2_with fail
              refine (MN.out _).mono ?_
              rintro e x1 ⟨rfl, rfl⟩
              go_wp2_with fail
              refine (MR.out _).mono ?_
              rintro e x2 ⟨rfl, rfl⟩
              go_wp2_with fail
              refine (MR1.out _).mono ?_
              rintro e x3 ⟨rfl, rfl⟩
              go_wp2_with fail
              refine (MM.out _).mono ?_
              rintro e x4 ⟨rfl, rfl⟩
              go_wp2_with fail
              refine (awake_any _).mono ?_
              rintro e x9 ⟨rfl, q9⟩
              go_wp2_with fail
              go_ret
              exact ⟨rfl, (Q.refl _).trans q9⟩

set_option maxRecDepth 100000 in
theorem lifted (os : Os) (started : os.Started) (H : Type) (enc : TypeId × Value → H) :
    ReturnsInHanded {} Try.checked os 7 .any (Rows.blockRoomsSpec.pre6 enc Try.prog Try.f7 Rows.blockRoomsRow.domain false) (Rows.blockRoomsSpec.post enc Try.prog Try.f7 false true false false) := by
  refine returnsInHanded_of_change (C := Try.checked) own started (by kernel_rfl) Try.func7
    (ChangeSpec.witness6 (enc := enc) (C := Try.checked) false ⟨#[], #[.int .i64 0, .int .i64 0], []⟩ 8 (by kernel_rfl) (by kernel_rfl) (by kernel_rfl) (by kernel_rfl)) ?_
  intro W base args ds gs before hval0 hW hcnd _
  have hval : ∀ (j : Nat) t v, Try.f7.params[j]? = some t → args[j]? = some v → Value.okWide Try.prog W .any base t v := hval0
  have hW' := hW
  obtain ⟨p, q, hA0, hV, rfl, hfz, hnd⟩ := hW
  have hA : DataW.TrodAll enc Try.prog W 0 (fun _ => true) true Try.f7.params.toList args.toList ds p := hA0
  rw [Try.params7] at hA hval
  obtain ⟨v0, vs0, d0, ds0, p0, q0, hargs, rfl, rfl, h0, r0⟩ := trodAll_cons hA
  obtain ⟨v1, vs1, d1, ds1, p1, q1, rfl, rfl, rfl, h1, r1⟩ := trodAll_cons r0
  obtain ⟨rfl, rfl, rfl⟩ := trodAll_nil r1
  obtain rfl : args = #[v0, v1] := by cases args; simp_all
  obtain ⟨rfl, rfl⟩ := trodVars_none hV
  clear hA0 hval0
  simp only [List.append_nil] at hW'
  have hlt : ∀ x ∈ p0 ++ p1, x.block < W.heap.size := fun x hx => by simpa using hW'.lt x (by simpa using hx)
  obtain ⟨a0, rfl, -, -, w0⟩ := open_int Try.underlying3 (hval 0 3 v0 rfl rfl) h0
  obtain ⟨a1, rfl, -, -, w1⟩ := open_int Try.underlying3 (hval 1 3 v1 rfl rfl) h1
  refine (walk a0 a1 w0 w1 W).mono fun e W' ⟨he, bel⟩ => ?_
  subst he
  refine ⟨_, rfl, _, _, _, [], _, [], hW', trodAll_mk1 (shut_bool Try.underlying4 _), (trodAll_cons_mk (Below.trod laid (by kernel_rfl) (of_decide_eq_true (by kernel_rfl)) h0 bel (fun x hx => hlt x (by simp [hx]))) (trodAll_cons_mk (Below.trod laid (by kernel_rfl) (of_decide_eq_true (by kernel_rfl)) h1 bel (fun x hx => hlt x (by simp [hx]))) trodAll_mk0)), rfl, Below.frame bel _, fun h => by cases h⟩

theorem over : Rows.blockRoomsRow.holds Try.pinned (OpenSpec.ofChange Rows.blockRoomsSpec) :=
  OpenClaim.holds_of_wide 7 Try.f7 rfl rfl rfl rfl rfl rfl rfl ⟨rfl, rfl, rfl, rfl, rfl⟩ rfl rfl rfl rfl rfl (by kernel_rfl) Try.func7 (by kernel_rfl)
    (of_decide_eq_true (by kernel_rfl)) (by unfold Func.isWrapper; first | (rw [if_pos (by decide +kernel)]; kernel_rfl) | (rw [if_neg (by decide +kernel)]; exact ⟨rfl, rfl⟩))
    (fun os started H enc _ => lifted os started H enc)

theorem proved : Rows.BlockRoomsSaid := over
#print axioms proved
end Go.Proofs.Ytpcanlafbcdmcaa.blockRooms
