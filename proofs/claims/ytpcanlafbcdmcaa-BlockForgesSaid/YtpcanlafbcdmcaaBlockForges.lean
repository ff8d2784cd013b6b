/-
  Proved: whatever two texts BlockForges is called with, it returns true and leaves what it was given as it was. No condition.
-/
import Derived.Test.YtpcanlafbcdmcaaKAwk
import Derived.Test.YtpcanlafbcdmcaaCoreOpen
namespace Go.Proofs.Ytpcanlafbcdmcaa.blockForges
set_option maxRecDepth 100000
open Go.ChangeShapes Go.WideShapes Go.ChangeAt Go.RowKit
open Go.ChangeMaps (open_string shut_string)
set_option linter.unusedVariables false
set_option linter.unusedSimpArgs false

theorem OwnT.two (w : World) (base : Nat) (y z : ByteArray) (hb : base ≤ w.heap.size) : OwnT base (w.alloc (.cells #[.string y, .string z] 9)) (.slice (some ⟨w.heap.size, 0, none⟩) 2 2) [y, z] :=
  ⟨rfl, .inr ⟨_, 2, _, rfl, hb, Bx.new w 9 #[.string y, .string z], Nat.le_refl _, by unfold maxLen; omega, rfl, rfl⟩⟩
attribute [local irreducible] layK joinK fewK manyK cutK blksK allK scanV manyI
set_option maxHeartbeats 8000000 in
set_option maxRecDepth 100000 in
theorem walk (a0 a1 : ByteArray) (w0 : a0.size ≤ maxLen) (w1 : a1.size ≤ maxLen) (w : World) :
    Calls Try.prog 6 #[.string a0, .string a1] w fun e w' => e = .returned (.bool true) ∧ Q w w' := by
  have FS := Lib.hid fun w => few_any a0 w w0
  have FT := Lib.hid fun w => few_any a1 w w1
  have fs := fewK_le a0
  have ft := fewK_le a1
  obtain ⟨s, hs⟩ : ∃ s, s = fewK a0 := ⟨_, rfl⟩
  obtain ⟨t, ht⟩ : ∃ t, t = fewK a1 := ⟨_, rfl⟩
  rw [← hs] at FS fs
  rw [← ht] at FT ft
  clear hs ht w0 w1
  by_cases hs : 12000 < s.size
  · have LS := Lib.hid fun w => layNo_any s w hs
    go_enter Try.func6, Try.ntmps6
    go_wp2_with fail
    refine (FS.out _).mono ?_
    rintro e x1 ⟨rfl, d1⟩
    go_wp2_with fail
    refine (FT.out _).mono ?_
    rintro e x2 ⟨rfl, d2⟩
    have Q2 := Lib.hid ((d1.trans d2).q)
    clear d1 d2
    go_wp2_with fail
    refine (LS.out _).mono ?_
    rintro e x3 ⟨rfl, q3⟩
    have Q3 := Lib.hid (Q2.out.trans q3)
    clear q3
    go_wp2_with fail
    refine (awake_any _).mono ?_
    rintro e x9 ⟨rfl, q9⟩
    go_wp2_with fail
    go_ret
    exact ⟨rfl, (Q3.out).trans q9⟩
  · have LS := Lib.hid fun w => layYes_any s w (by omega)
    have hA := joinK_size _ (layK_size s)
    rw [layK_length] at hA
    have hmk := manyK_le s.size
    obtain ⟨A, hAA⟩ : ∃ A, A = joinK (layK s) := ⟨_, rfl⟩
    rw [← hAA] at LS hA
    have hA2 : A.size ≤ 13000 := by omega
    clear hAA hA hmk
    by_cases hg : 12000 < A.size + t.size
    · have hgi : (12000 : Int) < (A.size : Int) + (t.size : Int) := by omega
      have hgd : decide (12000 < A.size + t.size) = true := by simp; omega
      go_enter Try.func6, Try.ntmps6
      go_wp2_with fail
      refine (FS.out _).mono ?_
      rintro e x1 ⟨rfl, d1⟩
      go_wp2_with fail
      refine (FT.out _).mono ?_
      rintro e x2 ⟨rfl, d2⟩
      have Q2 := Lib.hid ((d1.trans d2).q)
      clear d1 d2
      go_wp2_with fail
      refine (LS.out _).mono ?_
      rintro e x3 ⟨rfl, q3⟩
      have Q3 := Lib.hid (Q2.out.trans q3)
      clear q3
      go_wp2_with fail
      refine (awake_any _).mono ?_
      rintro e x9 ⟨rfl, q9⟩
      go_wp2_with fail
      go_ret
      exact ⟨rfl, (Q3.out).trans q9⟩
    · have hgi : ¬ (12000 : Int) < (A.size : Int) + (t.size : Int) := by omega
      have hgd : decide (12000 < A.size + t.size) = false := by simp; omega
      have hX1 : (t ++ A).size = t.size + A.size := ByteArray.size_append
      have hX2 : (A ++ t).size = A.size + t.size := ByteArray.size_append
      obtain ⟨X, hX⟩ : ∃ X, t ++ A = X := ⟨_, rfl⟩
      obtain ⟨Y, hY⟩ : ∃ Y, A ++ t = Y := ⟨_, rfl⟩
      have hXs : X.size ≤ 12000 := by rw [← hX, hX1]; omega
      have hYs : Y.size ≤ 12000 := by rw [← hY, hX2]; omega
      have hts : t.size + A.size ≤ 100000 := by omega
      have hts2 : A.size + t.size ≤ 100000 := by omega
      clear hX1 hX2
      have LX := Lib.hid fun w => layYes_any X w hXs
      have LY := Lib.hid fun w => layYes_any Y w hYs
      have SV : Hid (scanV (cutK (joinK (layK X) ++ joinK (layK Y))) = ([X, Y], 0, 0)) := Lib.hid (by
        have hz : ∀ b ∈ layK X ++ layK Y, b.size = 64 := fun b hb => by
          rcases List.mem_append.1 hb with hb | hb
          · exact layK_size X b hb
          · exact layK_size Y b hb
        have e : joinK (layK X) ++ joinK (layK Y) = joinK (layK X ++ layK Y) := by apply bl_inj; rw [bl_append, join_bl, join_bl, join_bl, List.flatMap_append]
        rw [e, cut_join _ hz]
        refine scanV_of hz ?_
        have := all_lay [X, Y] (fun x hx => by
          rcases List.mem_cons.1 hx with rfl | hx
          · exact hXs
          · rw [List.mem_singleton.1 hx]; exact hYs)
        rw [List.flatMap_cons, List.flatMap_singleton] at this
        exact this)
      have hJX := joinK_size _ (layK_size X)
      have hJY := joinK_size _ (layK_size Y)
      rw [layK_length] at hJX hJY
      have hk1 := manyK_le X.size
      have hk2 := manyK_le Y.size
      obtain ⟨B, hB⟩ : ∃ B, B = joinK (layK X) := ⟨_, rfl⟩
      obtain ⟨C, hC⟩ : ∃ C, C = joinK (layK Y) := ⟨_, rfl⟩
      rw [← hB, ← hC] at SV
      rw [← hB] at LX hJX
      rw [← hC] at LY hJY
      have hB2 : B.size ≤ 13000 := by omega
      have hC2 : C.size ≤ 13000 := by omega
      have hBC : (B ++ C).size = B.size + C.size := ByteArray.size_append
      obtain ⟨Z, hZ⟩ : ∃ Z, B ++ C = Z := ⟨_, rfl⟩
      rw [hZ] at SV hBC
      have hZs : Z.size ≤ 100000 := by omega
      have hbc : B.size + C.size ≤ 100000 := by omega
      have CZ := Lib.hid fun w => cut_any Z w (by omega)
      have hcl : (cutK Z).length ≤ 100000 := by rw [cutK_length]; omega
      obtain ⟨l, hl⟩ : ∃ l, l = cutK Z := ⟨_, rfl⟩
      rw [← hl] at CZ SV hcl
      clear hB hC hJX hJY hk1 hk2 hBC hl
      go_enter Try.func6, Try.ntmps6
      go_wp2_with fail
      refine (FS.out _).mono ?_
      rintro e x1 ⟨rfl, d1⟩
      go_wp2_with fail
      refine (FT.out _).mono ?_
      rintro e x2 ⟨rfl, d2⟩
      have Q2 := Lib.hid ((d1.trans d2).q)
      clear d1 d2
      go_wp2_with fail
      refine (LS.out _).mono ?_
      rintro e x3 ⟨rfl, q3⟩
      have Q3 := Lib.hid (Q2.out.trans q3)
      clear q3
      go_wp2_with fail
      refine (LX.out _).mono ?_
      rintro e x4 ⟨rfl, q4⟩
      have Q4 := Lib.hid (Q3.out.trans q4)
      clear q4
      go_wp2_with fail
      refine (LY.out _).mono ?_
      rintro e x5 ⟨rfl, q5⟩
      have Q5 := Lib.hid (Q4.out.trans q5)
      clear q5
      go_wp2_with fail
      refine (CZ.out _).mono ?_
      rintro e x8 ⟨A8, c8, rfl, o8, q8⟩
      have O8 := Lib.hid o8
      have Q8 := Lib.hid (Q5.out.trans q8)
      clear q8 o8
      have SC := Lib.hid (scan_any l (.slice A8 l.length c8) x8 (by omega) O8.out.tcs)
      obtain ⟨N8, hN8⟩ : ∃ N8, N8 = l.length := ⟨_, rfl⟩
      rw [← hN8] at SC ⊢
      clear hN8 O8
      go_wp2_with fail
      refine SC.out.mono ?_
      rintro e x9 ⟨A9, c9, rfl, t9, q9⟩
      rw [SV.out] at t9 ⊢
      have Q9 := Lib.hid (Q8.out.trans q9)
      have T10 := Lib.hid (t9.txts.on ((Q.refl x9).alloc (.cells #[.string X, .string Y] 9)))
      have O10 := Lib.hid (OwnT.two x9 x9.heap.size X Y (Nat.le_refl _)).tcs.txts
      have SM := Lib.hid (rsame_any [X, Y] [X, Y] _ _ _ (by simp) (by simp) T10.out O10.out)
      rw [show decide ([X, Y] = [X, Y]) = true by simp] at SM
      have l2 : ([X, Y] : List ByteArray).length = 2 := rfl
      rw [l2] at SM ⊢
      clear q9 t9
      go_wp2_with fail
      refine SM.out.mono ?_
      rintro e x11 ⟨rfl, q11⟩
      have Q11 := Lib.hid ((Q9.out.trans ((Q.refl x9).alloc _)).trans q11)
      clear q11
      go_wp2_with fail
      refine (awake_any _).mono ?_
      rintro e x12 ⟨rfl, q12⟩
      go_wp2_with fail
      go_ret
      exact ⟨rfl, (Q11.out).trans q12⟩

set_option maxRecDepth 100000 in
theorem lifted (os : Os) (started : os.Started) (H : Type) (enc : TypeId × Value → H) :
    ReturnsInHanded {} Try.checked os 6 .any (Rows.blockForgesSpec.pre6 enc Try.prog Try.f6 Rows.blockForgesRow.domain false) (Rows.blockForgesSpec.post enc Try.prog Try.f6 false true false false) := by
  refine returnsInHanded_of_change (C := Try.checked) own started (by kernel_rfl) Try.func6
    (ChangeSpec.witness6 (enc := enc) (C := Try.checked) false ⟨#[], #[.string ByteArray.empty, .string ByteArray.empty], []⟩ 8 (by kernel_rfl) (by kernel_rfl) (by kernel_rfl) (by kernel_rfl)) ?_
  intro W base args ds gs before hval0 hW hcnd _
  have hval : ∀ (j : Nat) t v, Try.f6.params[j]? = some t → args[j]? = some v → Value.okWide Try.prog W .any base t v := hval0
  have hW' := hW
  obtain ⟨p, q, hA0, hV, rfl, hfz, hnd⟩ := hW
  have hA : DataW.TrodAll enc Try.prog W 0 (fun _ => true) true Try.f6.params.toList args.toList ds p := hA0
  rw [Try.params6] at hA hval
  obtain ⟨v0, vs0, d0, ds0, p0, q0, hargs, rfl, rfl, h0, r0⟩ := trodAll_cons hA
  obtain ⟨v1, vs1, d1, ds1, p1, q1, rfl, rfl, rfl, h1, r1⟩ := trodAll_cons r0
  obtain ⟨rfl, rfl, rfl⟩ := trodAll_nil r1
  obtain rfl : args = #[v0, v1] := by cases args; simp_all
  obtain ⟨rfl, rfl⟩ := trodVars_none hV
  clear hA0 hval0
  simp only [List.append_nil] at hW'
  have hlt : ∀ x ∈ p0 ++ p1, x.block < W.heap.size := fun x hx => by simpa using hW'.lt x (by simpa using hx)
  obtain ⟨a0, rfl, -, -, w0⟩ := open_string Try.underlying9 (hval 0 9 v0 rfl rfl) h0
  obtain ⟨a1, rfl, -, -, w1⟩ := open_string Try.underlying9 (hval 1 9 v1 rfl rfl) h1
  refine (walk a0 a1 w0 w1 W).mono fun e W' ⟨he, bel⟩ => ?_
  subst he
  refine ⟨_, rfl, _, _, _, [], _, [], hW', trodAll_mk1 (shut_bool Try.underlying4 _), (trodAll_cons_mk (Below.trod laid (by kernel_rfl) (of_decide_eq_true (by kernel_rfl)) h0 bel (fun x hx => hlt x (by simp [hx]))) (trodAll_cons_mk (Below.trod laid (by kernel_rfl) (of_decide_eq_true (by kernel_rfl)) h1 bel (fun x hx => hlt x (by simp [hx]))) trodAll_mk0)), rfl, Below.frame bel _, fun h => by cases h⟩

theorem over : Rows.blockForgesRow.holds Try.pinned (OpenSpec.ofChange Rows.blockForgesSpec) :=
  OpenClaim.holds_of_wide 6 Try.f6 rfl rfl rfl rfl rfl rfl rfl ⟨rfl, rfl, rfl, rfl, rfl⟩ rfl rfl rfl rfl rfl (by kernel_rfl) Try.func6 (by kernel_rfl)
    (of_decide_eq_true (by kernel_rfl)) (by unfold Func.isWrapper; first | (rw [if_pos (by decide +kernel)]; kernel_rfl) | (rw [if_neg (by decide +kernel)]; exact ⟨rfl, rfl⟩))
    (fun os started H enc _ => lifted os started H enc)

theorem proved : Rows.BlockForgesSaid := over
#print axioms proved
end Go.Proofs.Ytpcanlafbcdmcaa.blockForges
