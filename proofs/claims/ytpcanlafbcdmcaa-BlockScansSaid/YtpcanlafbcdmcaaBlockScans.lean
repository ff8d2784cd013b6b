/-
  Proved: whatever list of texts BlockScans is called with, it returns true and leaves what it was given as it was. No condition.
-/
import Derived.Test.YtpcanlafbcdmcaaKAwk
import Derived.Test.YtpcanlafbcdmcaaCoreOpen
namespace Go.Proofs.Ytpcanlafbcdmcaa.blockScans
set_option maxRecDepth 100000
open Go.ChangeShapes Go.WideShapes Go.ChangeAt Go.RowKit
open Go.ChangeMaps (open_string shut_string)
set_option linter.unusedVariables false
set_option linter.unusedSimpArgs false

attribute [local irreducible] layK joinK fewK manyK cutK blksK allK scanV manyI
set_option maxHeartbeats 8000000 in
theorem scan_few (l : List ByteArray) : (scanV l).1.length ≤ l.length := by
  unfold scanV allK
  split
  · have key : ∀ (f : Nat) (m : List ByteArray), (scanK f m).1.length ≤ f := by
      intro f
      induction f with
      | zero => intro m; exact Nat.le_refl _
      | succ f ih =>
        intro m
        rw [scanK]
        cases firstK m with
        | none => simp
        | some s => have := ih (m.drop (manyK s.size)); simp; omega
    have := key l.length l
    simp only
    split
    · exact this
    · simp
  · simp
set_option maxHeartbeats 8000000 in
set_option maxRecDepth 100000 in
theorem walk (a0 : List ByteArray) (v0 : Value) (w : World) (t0 : Txts w w.heap.size v0 a0) (w0 : a0.length ≤ maxLen) (s0 : ∀ s ∈ a0, s.size ≤ maxLen) :
    Calls Try.prog 4 #[v0] w fun e w' => e = .returned (.bool true) ∧ Q w w' := by
  have BC := Lib.hid (blks_law a0 v0 w w0 s0 t0)
  have bl4 := blksK_len a0
  obtain ⟨A, c, rfl, -⟩ := t0
  obtain ⟨l, hl⟩ : ∃ l, l = blksK a0 := ⟨_, rfl⟩
  rw [← hl] at BC bl4
  clear hl s0 w0
  go_enter Try.func4, Try.ntmps4
  go_wp2_with fail
  refine BC.out.mono ?_
  rintro e x1 ⟨A1, c1, rfl, o1, q1⟩
  have O1 := Lib.hid o1
  have Q1 := Lib.hid q1
  have SC := Lib.hid (scan_any l (.slice A1 l.length c1) x1 (by omega) O1.out.tcs)
  clear o1 q1
  go_wp2_with fail
  refine SC.out.mono ?_
  rintro e x2 ⟨A2, c2, rfl, t2, q2⟩
  have HAR := Lib.hid (fun i h hb => scanV_arg (l := l) i h hb)
  have T2 := Lib.hid t2
  have Q2 := Lib.hid (Q1.out.trans q2)
  have QQ2 := Lib.hid q2
  clear t2 q2
  have hrl : (scanV l).1.length ≤ 100000 := by have := scan_few l; omega
  have HR3 : Hid ((∀ b ∈ l, b.size = 64) → scanV l = ((allK l).1, (allK l).2.1, if (allK l).2.2 then 0 else 11)) := Lib.hid (fun h => by rw [scanV, if_pos h])
  obtain ⟨R, hR⟩ : ∃ R, R = (scanV l).1 := ⟨_, rfl⟩
  obtain ⟨n, hn⟩ : ∃ n, n = (scanV l).2.1 := ⟨_, rfl⟩
  obtain ⟨k, hk⟩ : ∃ k, k = (scanV l).2.2 := ⟨_, rfl⟩
  have HSV : Hid (scanV l = (R, n, k)) := Lib.hid (by rw [hR, hn, hk])
  rw [← hR] at T2 hrl ⊢
  rw [← hn, ← hk]
  clear hR hn hk
  go_wp2_with fail
  go_loopw [6] (fun I wr => ∃ j : Nat, j ≤ l.length ∧ I = .int .i64 j ∧ Hid (∀ i (h : i < l.length), i < j → l[i].size = 64) ∧ Hid (D x2 wr)) (fun I _ => l.length - (intOf I).toNat)
  case atStart => exact ⟨0, Nat.zero_le _, rfl, Lib.hid (fun i h h2 => absurd h2 (by omega)), Lib.hid (D.refl _)⟩
  case round =>
    obtain ⟨j, hj, rfl, HA, HD⟩ := hrel
    by_cases hlt : j < l.length
    · obtain ⟨a, c', hv, -, ha, hcs⟩ := O1.out.tcs.at (by omega)
      injection hv with e1 e2 e3
      subst e1 e3
      have hat : wr.cell? (a.add j) = some (.string l[j]) := ((QQ2.out.trans HD.out.q).cell (by rw [add_block]; exact ha)).trans (hcs j hlt)
      have HX := Lib.hid (HAR.out j hlt)
      have HNX : Hid (l[j].size = 64 → ∀ i (h : i < l.length), i < j + 1 → l[i].size = 64) := Lib.hid (fun hh i h h2 => by
        by_cases h3 : i < j
        · exact HA.out i h h3
        · obtain rfl : i = j := by omega
          exact hh)
      obtain ⟨y, hy⟩ : ∃ y, y = l[j] := ⟨_, rfl⟩
      rw [← hy] at hat HX HNX
      clear hy hcs
      have hlt' : (j : Int) < (l.length : Int) := by omega
      by_cases hb : y.size = 64
      · have hb' : (y.size : Int) = 64 := by omega
        have hb2 : ((y.size : Int) != 64) = false := by rw [hb']; rfl
        have HNX2 := Lib.hid (HNX.out hb)
        clear HX HNX hb
        go_wp2_with fail
        go_roundw
        case rel => exact ⟨j + 1, by omega, by go_num, HNX2, HD⟩
        case measure => simp [intOf]; omega
      · have hb' : ¬ (y.size : Int) = 64 := by omega
        have hb2 : ((y.size : Int) != 64) = true := by simp; omega
        have hV := HX.out hb
        have hS := HSV.out
        rw [hV] at hS
        injection hS with hS1 hS2
        injection hS2 with hS2 hS3
        subst hS1 hS2 hS3
        have Q5 := Lib.hid (Q2.out.trans HD.out.q)
        have l0 : ([] : List ByteArray).length = 0 := rfl
        clear HX HNX hb hV
        go_wp2_with fail
        refine (awake_any _).mono ?_
        rintro e x9 ⟨rfl, q9⟩
        go_wp2_with fail
        go_ret
        exact ⟨rfl, (Q5.out).trans q9⟩
    · obtain rfl : j = l.length := by omega
      have hz : ∀ b ∈ l, b.size = 64 := fun b hb => by
        obtain ⟨i, hi, rfl⟩ := List.getElem_of_mem hb
        exact HA.out i hi hi
      have Q5 := Lib.hid (Q2.out.trans HD.out.q)
      have QQ5 := Lib.hid (QQ2.out.trans HD.out.q)
      have hV := HR3.out hz
      rw [HSV.out] at hV
      injection hV with hV1 hV2
      injection hV2 with hV2 hV3
      have RC := Lib.hid (rscan_any l (.slice A1 l.length c1) wr hz (by omega) (O1.out.tcs.on QQ5.out))
      clear HA HR3 hz
      obtain ⟨ok, hok⟩ : ∃ ok, ok = (allK l).2.2 := ⟨_, rfl⟩
      have HRP : Hid (∀ e w', RScanP wr l e w' → ∃ A c, e = .returned (.tuple #[.slice A R.length c, .int .i64 (n : Nat), .bool ok]) ∧ Tcs w' w'.heap.size (.slice A R.length c) R ∧ Q wr w') := Lib.hid (by
        rintro e w' ⟨A, c, h1, h2, h3⟩
        rw [← hV1, ← hV2, ← hok] at h1
        rw [← hV1] at h2
        exact ⟨A, c, h1, h2, h3⟩)
      rw [← hok] at hV3
      clear hV1 hV2 hok
      go_wp2_with fail
      refine RC.out.mono ?_
      intro e x6 hp6
      obtain ⟨A6, c6, rfl, t6, q6⟩ := HRP.out _ _ hp6
      have Q6 := Lib.hid (Q5.out.trans q6)
      have T6 := Lib.hid t6
      have SM := Lib.hid (rsame_any R R _ _ x6 (by omega) (by omega) (T2.out.on (HD.out.q.trans q6)).txts T6.out.txts)
      rw [show decide (R = R) = true by simp] at SM
      clear q6 t6 hp6
      have hnn : ((n : Int) == (n : Int)) = true := by simp
      cases ok with
      | true =>
        obtain rfl : k = 0 := by rw [hV3]; rfl
        clear hV3
        go_wp2_with fail
        refine SM.out.mono ?_
        rintro e x7 ⟨rfl, q7⟩
        have Q7 := Lib.hid (Q6.out.trans q7)
        clear q7
        go_wp2_with fail
        refine (awake_any _).mono ?_
        rintro e x9 ⟨rfl, q9⟩
        go_wp2_with fail
        go_ret
        exact ⟨rfl, (Q7.out).trans q9⟩
      | false =>
        obtain rfl : k = 11 := by rw [hV3]; rfl
        clear hV3
        go_wp2_with fail
        refine SM.out.mono ?_
        rintro e x7 ⟨rfl, q7⟩
        have Q7 := Lib.hid (Q6.out.trans q7)
        clear q7
        go_wp2_with fail
        refine (awake_any _).mono ?_
        rintro e x9 ⟨rfl, q9⟩
        go_wp2_with fail
        go_ret
        exact ⟨rfl, (Q7.out).trans q9⟩

set_option maxRecDepth 100000 in
theorem lifted (os : Os) (started : os.Started) (H : Type) (enc : TypeId × Value → H) :
    ReturnsInHanded {} Try.checked os 4 .any (Rows.blockScansSpec.pre6 enc Try.prog Try.f4 Rows.blockScansRow.domain false) (Rows.blockScansSpec.post enc Try.prog Try.f4 false true false false) := by
  refine returnsInHanded_of_change (C := Try.checked) own started (by kernel_rfl) Try.func4
    (ChangeSpec.witness6 (enc := enc) (C := Try.checked) false ⟨#[], #[.slice none 0 0], []⟩ 8 (by kernel_rfl) (by kernel_rfl) (by kernel_rfl) (by kernel_rfl)) ?_
  intro W base args ds gs before hval0 hW hcnd _
  have hval : ∀ (j : Nat) t v, Try.f4.params[j]? = some t → args[j]? = some v → Value.okWide Try.prog W .any base t v := hval0
  have hW' := hW
  obtain ⟨p, q, hA0, hV, rfl, hfz, hnd⟩ := hW
  have hA : DataW.TrodAll enc Try.prog W 0 (fun _ => true) true Try.f4.params.toList args.toList ds p := hA0
  rw [Try.params4] at hA hval
  obtain ⟨v0, vs0, d0, ds0, p0, q0, hargs, rfl, rfl, h0, r0⟩ := trodAll_cons hA
  obtain ⟨rfl, rfl, rfl⟩ := trodAll_nil r0
  obtain rfl : args = #[v0] := by cases args; simp_all
  obtain ⟨rfl, rfl⟩ := trodVars_none hV
  clear hA0 hval0
  simp only [List.append_nil] at hW'
  have hlt : ∀ x ∈ p0, x.block < W.heap.size := fun x hx => by simpa using hW'.lt x (by simpa using hx)
  obtain ⟨a0, t0, w0, s0⟩ := open_txts (hval 0 28 v0 rfl rfl) h0
  refine (walk a0 v0 W t0 w0 s0).mono fun e W' ⟨he, bel⟩ => ?_
  subst he
  refine ⟨_, rfl, _, _, _, [], _, [], hW', trodAll_mk1 (shut_bool Try.underlying4 _), (trodAll_cons_mk (Below.trod laid (by kernel_rfl) (of_decide_eq_true (by kernel_rfl)) h0 bel (fun x hx => hlt x (by simp [hx]))) trodAll_mk0), rfl, Below.frame bel _, fun h => by cases h⟩

theorem over : Rows.blockScansRow.holds Try.pinned (OpenSpec.ofChange Rows.blockScansSpec) :=
  OpenClaim.holds_of_wide 4 Try.f4 rfl rfl rfl rfl rfl rfl rfl ⟨rfl, rfl, rfl, rfl, rfl⟩ rfl rfl rfl rfl rfl (by kernel_rfl) Try.func4 (by kernel_rfl)
    (of_decide_eq_true (by kernel_rfl)) (by unfold Func.isWrapper; first | (rw [if_pos (by decide +kernel)]; kernel_rfl) | (rw [if_neg (by decide +kernel)]; exact ⟨rfl, rfl⟩))
    (fun os started H enc _ => lifted os started H enc)

theorem proved : Rows.BlockScansSaid := over
#print axioms proved
end Go.Proofs.Ytpcanlafbcdmcaa.blockScans
