/-
  Proved: whatever text and numbers BlockSpoilt is called with, it returns true and leaves what it was given as it was. No condition.
-/
import Derived.Test.YtpcanlafbcdmcaaKBytes
import Derived.Test.YtpcanlafbcdmcaaCoreOpen
namespace Go.Proofs.Ytpcanlafbcdmcaa.blockSpoilt
set_option maxRecDepth 100000
open Go.ChangeShapes Go.WideShapes Go.ChangeAt Go.RowKit
open Go.ChangeMaps (open_string shut_string)
set_option linter.unusedVariables false
set_option linter.unusedSimpArgs false

theorem nat16 {a : Int} (h : (Lit.int .u16 a).wf = true) : ∃ n : Nat, a = n ∧ n < 65536 := by
  have : 0 ≤ a ∧ a ≤ 65535 := by simpa [Lit.wf, IntKind.min, IntKind.max, IntKind.signed, IntKind.bits] using h
  exact ⟨a.toNat, by omega, by omega⟩
theorem nat8 {a : Int} (h : (Lit.int .u8 a).wf = true) : ∃ n : Nat, a = n ∧ n < 256 := by
  have : 0 ≤ a ∧ a ≤ 255 := by simpa [Lit.wf, IntKind.min, IntKind.max, IntKind.signed, IntKind.bits] using h
  exact ⟨a.toNat, by omega, by omega⟩
attribute [local irreducible] layK joinK fewK manyK cutK blksK allK scanV manyI
theorem spoilt_scan {s : ByteArray} (hs : s.size ≤ 12000) {b : ByteArray} (hb : b.size = (joinK (layK s)).size) (hn : b ≠ joinK (layK s)) :
    (scanV (cutK b) = ([], 0, 11)) ∨ ∃ R n, scanV (cutK b) = (R, n, 0) ∧ R ≠ [s] ∧ n ≤ (cutK b).length ∧ R.length ≤ (cutK b).length := by
  have hz := cutK_size b
  have key : ∀ (f : Nat) (m : List ByteArray), (scanK f m).1.length ≤ f := by
    intro f
    induction f with
    | zero => intro m; exact Nat.le_refl _
    | succ f ih =>
      intro m
      rw [scanK]
      cases firstK m with
      | none => simp
      | some s => have := ih (m.drop (manyK s.size)); simp; omega
  by_cases h : (restK (cutK b)).length = 0 ∨ tailK (restK (cutK b)) = true
  · refine .inr ⟨recsK (cutK b), (restK (cutK b)).length, ?_, fun e => hn (spoilt hs hb e), rest_le _, key _ _⟩
    exact scanV_of hz (by rw [allK_eq, if_pos h])
  · refine .inl (scanV_bad hz ?_ ?_)
    · apply Classical.byContradiction; intro h2; exact h (.inl (by omega))
    · cases ht : tailK (restK (cutK b)) with
      | false => rfl
      | true => exact absurd (.inr ht) h
set_option maxHeartbeats 8000000 in
set_option maxRecDepth 100000 in
theorem walk (a0 : ByteArray) (a1 a2 : Int) (w0 : a0.size ≤ maxLen) (w1 : (Lit.int .u16 a1).wf = true) (w2 : (Lit.int .u8 a2).wf = true) (w : World) :
    Calls Try.prog 9 #[.string a0, .int .u16 a1, .int .u8 a2] w fun e w' => e = .returned (.bool true) ∧ Q w w' := by
  obtain ⟨m, rfl, hm⟩ := nat16 w1
  obtain ⟨c, rfl, hc⟩ := nat8 w2
  clear w1 w2
  have FS := Lib.hid fun w => few_any a0 w w0
  have fs := fewK_le a0
  obtain ⟨s, hs⟩ : ∃ s, s = fewK a0 := ⟨_, rfl⟩
  rw [← hs] at FS fs
  clear hs w0
  by_cases hs : 12000 < s.size
  · have LS := Lib.hid fun w => layNo_any s w hs
    clear hs
    go_enter Try.func9, Try.ntmps9
    go_wp2_with fail
    refine (FS.out _).mono ?_
    rintro e x1 ⟨rfl, d1⟩
    have Q1 := Lib.hid d1.q
    clear d1
    go_wp2_with fail
    refine (LS.out _).mono ?_
    rintro e x3 ⟨rfl, q3⟩
    have Q3 := Lib.hid (Q1.out.trans q3)
    clear q3
    go_wp2_with fail
    refine (awake_any _).mono ?_
    rintro e x9 ⟨rfl, q9⟩
    go_wp2_with fail
    go_ret
    exact ⟨rfl, (Q3.out).trans q9⟩
  · have hs12 : s.size ≤ 12000 := by omega
    have LS := Lib.hid fun w => layYes_any s w hs12
    have hA := joinK_size _ (layK_size s)
    rw [layK_length] at hA
    have hmk := manyK_le s.size
    have hpk := manyK_pos hs12
    have SP := Lib.hid (fun b hb hn => spoilt_scan (b := b) hs12 hb hn)
    obtain ⟨A, hAA⟩ : ∃ A, A = joinK (layK s) := ⟨_, rfl⟩
    rw [← hAA] at LS hA SP
    have hA0 : 0 < A.size := by omega
    have hA9 : A.size ≤ 13000 := by omega
    have hb0 : ((A.size : Int) == 0) = false := beq_false_of_ne (by omega)
    have hb1 : decide (A.size = 0) = false := decide_eq_false (by omega)
    clear hAA hA hmk hpk hs
    obtain ⟨k, hk⟩ : ∃ k, k = m % A.size := ⟨_, rfl⟩
    have hkA : k < A.size := by rw [hk]; exact Nat.mod_lt _ hA0
    have ek : (m : Int) % (A.size : Int) = (k : Int) := by rw [hk, Int.natCast_emod]
    have ekt : (m : Int).tmod (A.size : Int) = (k : Int) := by rw [hk]; rfl
    have hkAi : (k : Int) < (A.size : Int) := by omega
    clear hk
    go_enter Try.func9, Try.ntmps9
    go_wp2_with fail
    refine (FS.out _).mono ?_
    rintro e x1 ⟨rfl, d1⟩
    have Q1 := Lib.hid d1.q
    clear d1
    go_wp2_with fail
    refine (LS.out _).mono ?_
    rintro e x3 ⟨rfl, q3⟩
    have Q3 := Lib.hid (Q1.out.trans q3)
    clear q3
    obtain ⟨W, cap, hconv, hcap, qW, zW, cW, fW⟩ := conv_bytes A x3
    have cW1 := cW k hkA
    have fW1 := fW k hkA
    have HC2 := Lib.hid (fun y V hV => conv_set A x3 W cap k y hkA zW cW V hV)
    have HNE := Lib.hid (fun y hy => setO_ne (D := A) hkA (y := y) hy)
    have HSZ := Lib.hid (fun y => setO_size A k y)
    have Q4 := Lib.hid (Q3.out.trans qW)
    have qWW := Lib.hid qW
    have hdc : ∀ y : UInt8, y = A[k] ↔ y.toNat = A[k].toNat := fun y => ⟨fun h => by rw [h], fun h => UInt8.toNat_inj.1 h⟩
    have HDC := Lib.hid (hdc c.toUInt8)
    have hyc : c.toUInt8.toNat = c := by simp; omega
    rw [hyc] at HDC
    obtain ⟨d, hd⟩ : ∃ d, d = A[k].toNat := ⟨_, rfl⟩
    rw [← hd] at cW1 HDC
    clear qW zW cW fW hdc hd
    have hA0i : ¬ (A.size : Int) = 0 := by omega
    by_cases hdd : d = c
    · have hde : ((d : Int) == (c : Int)) = true := by rw [hdd]; simp
      clear HC2 HNE HSZ SP HDC hdd
      go_wp2_with fail
      refine (awake_any _).mono ?_
      rintro e x9 ⟨rfl, q9⟩
      go_wp2_with fail
      go_ret
      exact ⟨rfl, (Q4.out).trans q9⟩
    · have hde : ((d : Int) == (c : Int)) = false := beq_false_of_ne (by omega)
      have hne := HNE.out c.toUInt8 (fun h => hdd (HDC.out.1 h).symm)
      have hcv := HC2.out c.toUInt8 (W.setCell ⟨x3.heap.size, k, none⟩ (.int .u8 (c.toUInt8.toNat : Nat))) (fun p => rfl)
      rw [hyc] at hcv
      have hes := HSZ.out c.toUInt8
      have HSP := Lib.hid (SP.out (setO A k c.toUInt8) hes hne)
      obtain ⟨E, hE⟩ : ∃ E, E = setO A k c.toUInt8 := ⟨_, rfl⟩
      rw [← hE] at hcv hes HSP
      have CE := Lib.hid (fun w => cut_any E w (by omega))
      have hcl : (cutK E).length ≤ 100000 := by rw [cutK_length]; omega
      obtain ⟨l, hl⟩ : ∃ l, l = cutK E := ⟨_, rfl⟩
      rw [← hl] at CE HSP hcl
      have Q5 := Lib.hid (Q3.out.trans (Below.setCell (p := ⟨x3.heap.size, k, none⟩) qWW.out (Nat.le_refl _) (.int .u8 (c : Nat))))
      clear HC2 HNE HSZ SP HDC hdd hne hE hes hl
      go_wp2_with fail
      refine (CE.out _).mono ?_
      rintro e x6 ⟨A6, c6, rfl, o6, q6⟩
      have SC := Lib.hid (scan_any l (.slice A6 l.length c6) x6 (by omega) o6.tcs)
      have Q6 := Lib.hid (Q5.out.trans q6)
      obtain ⟨N6, hN6⟩ : ∃ N6, N6 = l.length := ⟨_, rfl⟩
      rw [← hN6] at SC hcl HSP ⊢
      clear o6 q6 hN6
      go_wp2_with fail
      refine SC.out.mono ?_
      rintro e x7 ⟨A7, c7, rfl, t7, q7⟩
      have Q7 := Lib.hid (Q6.out.trans q7)
      clear q7
      rcases HSP.out with hV | ⟨R, n, hV, hR, hnl, hRl⟩
      · rw [hV]
        have l0 : ([] : List ByteArray).length = 0 := rfl
        clear t7 hV HSP
        go_wp2_with fail
        refine (awake_any _).mono ?_
        rintro e x9 ⟨rfl, q9⟩
        go_wp2_with fail
        go_ret
        exact ⟨rfl, (Q7.out).trans q9⟩
      · rw [hV] at t7 ⊢
        have T8 := Lib.hid (t7.txts.on ((Q.refl x7).alloc (.cells #[.string s] 9)))
        have O8 := Lib.hid (OwnT.one x7 x7.heap.size s (Nat.le_refl _)).tcs.txts
        have SM := Lib.hid (rsame_any R [s] _ _ _ (by omega) (by simp) T8.out O8.out)
        rw [show decide (R = [s]) = false by simp [hR]] at SM
        have hnl1 : (n : Int) ≤ (N6 : Int) := by omega
        have hnl2 : decide (n ≤ N6) = true := by simp; omega
        clear t7 hV hR HSP
        go_wp2_with fail
        refine SM.out.mono ?_
        rintro e x8 ⟨rfl, q8⟩
        have Q8 := Lib.hid ((Q7.out.trans ((Q.refl x7).alloc _)).trans q8)
        clear q8
        go_wp2_with fail
        refine (awake_any _).mono ?_
        rintro e x9 ⟨rfl, q9⟩
        go_wp2_with fail
        go_ret
        exact ⟨rfl, (Q8.out).trans q9⟩

set_option maxRecDepth 100000 in
theorem lifted (os : Os) (started : os.Started) (H : Type) (enc : TypeId × Value → H) :
    ReturnsInHanded {} Try.checked os 9 .any (Rows.blockSpoiltSpec.pre6 enc Try.prog Try.f9 Rows.blockSpoiltRow.domain false) (Rows.blockSpoiltSpec.post enc Try.prog Try.f9 false true false false) := by
  refine returnsInHanded_of_change (C := Try.checked) own started (by kernel_rfl) Try.func9
    (ChangeSpec.witness6 (enc := enc) (C := Try.checked) false ⟨#[], #[.string ByteArray.empty, .int .u16 0, .int .u8 0], []⟩ 8 (by kernel_rfl) (by kernel_rfl) (by kernel_rfl) (by kernel_rfl)) ?_
  intro W base args ds gs before hval0 hW hcnd _
  have hval : ∀ (j : Nat) t v, Try.f9.params[j]? = some t → args[j]? = some v → Value.okWide Try.prog W .any base t v := hval0
  have hW' := hW
  obtain ⟨p, q, hA0, hV, rfl, hfz, hnd⟩ := hW
  have hA : DataW.TrodAll enc Try.prog W 0 (fun _ => true) true Try.f9.params.toList args.toList ds p := hA0
  rw [Try.params9] at hA hval
  obtain ⟨v0, vs0, d0, ds0, p0, q0, hargs, rfl, rfl, h0, r0⟩ := trodAll_cons hA
  obtain ⟨v1, vs1, d1, ds1, p1, q1, rfl, rfl, rfl, h1, r1⟩ := trodAll_cons r0
  obtain ⟨v2, vs2, d2, ds2, p2, q2, rfl, rfl, rfl, h2, r2⟩ := trodAll_cons r1
  obtain ⟨rfl, rfl, rfl⟩ := trodAll_nil r2
  obtain rfl : args = #[v0, v1, v2] := by cases args; simp_all
  obtain ⟨rfl, rfl⟩ := trodVars_none hV
  clear hA0 hval0
  simp only [List.append_nil] at hW'
  have hlt : ∀ x ∈ p0 ++ p1 ++ p2, x.block < W.heap.size := fun x hx => by simpa using hW'.lt x (by simpa using hx)
  obtain ⟨a0, rfl, -, -, w0⟩ := open_string Try.underlying9 (hval 0 9 v0 rfl rfl) h0
  obtain ⟨a1, rfl, -, -, w1⟩ := open_int Try.underlying39 (hval 1 39 v1 rfl rfl) h1
  obtain ⟨a2, rfl, -, -, w2⟩ := open_int Try.underlying5 (hval 2 5 v2 rfl rfl) h2
  refine (walk a0 a1 a2 w0 w1 w2 W).mono fun e W' ⟨he, bel⟩ => ?_
  subst he
  refine ⟨_, rfl, _, _, _, [], _, [], hW', trodAll_mk1 (shut_bool Try.underlying4 _), (trodAll_cons_mk (Below.trod laid (by kernel_rfl) (of_decide_eq_true (by kernel_rfl)) h0 bel (fun x hx => hlt x (by simp [hx]))) (trodAll_cons_mk (Below.trod laid (by kernel_rfl) (of_decide_eq_true (by kernel_rfl)) h1 bel (fun x hx => hlt x (by simp [hx]))) (trodAll_cons_mk (Below.trod laid (by kernel_rfl) (of_decide_eq_true (by kernel_rfl)) h2 bel (fun x hx => hlt x (by simp [hx]))) trodAll_mk0))), rfl, Below.frame bel _, fun h => by cases h⟩

theorem over : Rows.blockSpoiltRow.holds Try.pinned (OpenSpec.ofChange Rows.blockSpoiltSpec) :=
  OpenClaim.holds_of_wide 9 Try.f9 rfl rfl rfl rfl rfl rfl rfl ⟨rfl, rfl, rfl, rfl, rfl⟩ rfl rfl rfl rfl rfl (by kernel_rfl) Try.func9 (by kernel_rfl)
    (of_decide_eq_true (by kernel_rfl)) (by unfold Func.isWrapper; first | (rw [if_pos (by decide +kernel)]; kernel_rfl) | (rw [if_neg (by decide +kernel)]; exact ⟨rfl, rfl⟩))
    (fun os started H enc _ => lifted os started H enc)

theorem proved : Rows.BlockSpoiltSaid := over
#print axioms proved
end Go.Proofs.Ytpcanlafbcdmcaa.blockSpoilt
