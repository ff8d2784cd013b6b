/-
  Proved: whatever uploads and upload PartsBegins is called with, it returns true and leaves what it was given as it was. No condition.
-/
import Derived.Test.YtlahccmlnbdekaaURBegin
import Derived.Test.YtlahccmlnbdekaaURSame
import Derived.Test.YtlahccmlnbdekaaUOct
import Derived.Test.YtlahccmlnbdekaaUFewL
import Derived.Test.YtlahccmlnbdekaaUAwk
namespace Go.Proofs.Ytlahccmlnbdekaa.partsBegins
open Go.ChangeShapes Go.WideShapes Go.ChangeAt Go.RowKit
open Go.ChangeMaps (open_string shut_string)
set_option linter.unusedVariables false
set_option linter.unusedSimpArgs false

set_option maxHeartbeats 8000000 in
set_option maxRecDepth 100000 in
theorem walk (l : List Upl) (v : Value) (m : List Upl) (z : Value) (q : Upl) (y : Value) (w : World) (t0 : Upls w w.heap.size v l) (z0 : l.length ≤ maxLen) (t1 : Upls w w.heap.size z m) (z1 : m.length ≤ maxLen) (uq : okU q) (tq : Prts w w.heap.size y q.L) :
    Calls Try.prog 4 #[v, z, upl q y] w fun e w' => e = .returned (.bool true) ∧ Q w w' := by
  have FL : Hid (∀ d, Q w d → Calls Try.prog 10 #[v] d fun e w' => ∃ v', e = .returned v' ∧ Upls w' w'.heap.size v' (fewL l) ∧ Q d w') := Lib.hid fun d q => fewUp_any l v d z0 (t0.on q)
  have FM : Hid (∀ d, Q w d → Calls Try.prog 10 #[z] d fun e w' => ∃ v', e = .returned v' ∧ Upls w' w'.heap.size v' (fewL m) ∧ Q d w') := Lib.hid fun d q => fewUp_any m z d z1 (t1.on q)
  have sl := fewL_sm l
  have sm := fewL_sm m
  obtain ⟨L, hL⟩ : ∃ L, L = fewL l := ⟨_, rfl⟩
  obtain ⟨M, hM⟩ : ∃ M, M = fewL m := ⟨_, rfl⟩
  rw [← hL] at FL sl
  rw [← hM] at FM sm
  obtain ⟨A, c, rfl⟩ := t0.form
  obtain ⟨A2, c2, rfl⟩ := t1.form
  obtain ⟨A3, n3, c3, rfl⟩ : ∃ A n c, y = .slice A n c := by obtain ⟨A, c, e⟩ := tq.form; exact ⟨A, _, c, e⟩
  obtain ⟨N, hN⟩ : ∃ N, l.length = N := ⟨_, rfl⟩
  obtain ⟨N2, hN2⟩ : ∃ N, m.length = N := ⟨_, rfl⟩
  obtain ⟨id, qk, qL⟩ := q
  have FK := Lib.hid fun d => fewS_any qk d uq.2.1
  have hk := fewS_size qk
  obtain ⟨k, hk'⟩ : ∃ k, k = fewS qk := ⟨_, rfl⟩
  rw [← hk'] at FK hk
  obtain ⟨r, n, hB⟩ := beginC_ex L id k
  have sr : smL r := by
    cases hB with
    | arg => exact ⟨by simp, by simp⟩
    | order => exact ⟨by simp, by simp⟩
    | large => exact ⟨by simp, by simp⟩
    | yes h1 h2 h3 h4 => exact okUps_sm (beginC_ok (.yes h1 h2 h3 h4))
  have B1 : Hid (∀ d u, Upls d d.heap.size u L → Calls Try.prog 23 #[u, .int .u64 (id : Nat), .string k] d fun x w' => ∃ u, x = .returned (.tuple #[u, .int .i64 (n : Nat)]) ∧ Upls w' w'.heap.size u r ∧ Q d w') := Lib.hid fun d u h => beginU_any L u id k d r n hB sl (by omega) h
  have B2 : Hid (∀ d u, Upls d d.heap.size u L → Calls Try.prog 24 #[u, .int .u64 (id : Nat), .string k] d fun x w' => ∃ u, x = .returned (.tuple #[u, .int .i64 (n : Nat)]) ∧ Upls w' w'.heap.size u r ∧ Q d w') := Lib.hid fun d u h => rbeginU_any L u id k d r n hB sl (by omega) h
  have S1 : Hid (∀ d u u2, Upls d d.heap.size u r → Upls d d.heap.size u2 r → Calls Try.prog 18 #[u, u2] d fun x w' => x = .returned (.bool true) ∧ Q d w') := Lib.hid fun d u u2 h h2 => (rsameU_any r r u u2 d true (.inl ⟨rfl, rfl⟩) sr sr h h2).mono fun _ _ ⟨a, b⟩ => ⟨a, b.q⟩
  obtain ⟨R, hR⟩ := chk_ex (L = M)
  have S2 : Hid (∀ d u u2, Upls d d.heap.size u L → Upls d d.heap.size u2 M → Calls Try.prog 18 #[u, u2] d fun x w' => x = .returned (.bool R) ∧ Q d w') := Lib.hid fun d u u2 h h2 => (rsameU_any L M u u2 d R hR sl sm h h2).mono fun _ _ ⟨a, b⟩ => ⟨a, b.q⟩
  have S3 : Hid (∀ d u u2, Upls d d.heap.size u L → Upls d d.heap.size u2 M → Calls Try.prog 27 #[u, u2] d fun x w' => x = .returned (.bool R) ∧ Q d w') := Lib.hid fun d u u2 h h2 => sameU_any L M u u2 d R hR sl sm h h2
  have O1 : Hid (∀ d u, Upls d d.heap.size u L → Calls Try.prog 25 #[u] d fun x w' => x = .returned (.int .i64 (sizU L : Nat)) ∧ Q d w') := Lib.hid fun d u h => octets_any L u d sl h
  have O2 : Hid (∀ d u, Upls d d.heap.size u L → Calls Try.prog 26 #[u] d fun x w' => x = .returned (.int .i64 (sizU L : Nat)) ∧ Q d w') := Lib.hid fun d u h => roctets_any L u d sl h
  obtain ⟨oc, hoc⟩ : ∃ o, o = sizU L := ⟨_, rfl⟩
  rw [← hoc] at O1 O2
  have AW := Lib.hid fun d => awakeU_any d
  have HB : Hid (∀ b, Q (w.alloc (.cells #[.int .u64 (id : Nat), .string qk, .slice A3 n3 c3] 40)) b → b.cell? ⟨w.heap.size, 0, none⟩ = some (.int .u64 (id : Nat)) ∧ b.cell? ⟨w.heap.size, 1, none⟩ = some (.string qk) ∧ b.cell? ⟨w.heap.size, 2, none⟩ = some (.slice A3 n3 c3)) := Lib.hid fun b q => boxU_of q
  rw [hN] at FL
  rw [hN2] at FM
  simp only [upl]
  rw [hN, hN2]
  clear t0 z0 t1 z1 uq tq sl sm hL hM hN hN2 hk hk' hB sr hR hoc
  go_enter Try.func4, Try.ntmps4
  go_wp2_with fail
  refine (FL.out _ ((Q.refl _).alloc _)).mono ?_
  rintro e w1 ⟨u1, rfl, h1, q1⟩
  obtain ⟨A5, c5, rfl⟩ := h1.form
  go_wp2_with fail
  refine (FM.out _ (((Q.refl _).alloc _).trans q1)).mono ?_
  rintro e w2 ⟨u2, rfl, h2, q2⟩
  obtain ⟨A6, c6, rfl⟩ := h2.form
  obtain ⟨b0, b1, b2⟩ := HB.out _ (((Q.refl _).trans q1).trans q2)
  go_wp2_with fail
  refine (FK.out _).mono ?_
  rintro e w3 ⟨rfl, rfl⟩
  go_wp2_with fail
  refine (B1.out _ _ (h1.on ((Q.refl _).trans q2))).mono ?_
  rintro e w4 ⟨u4, rfl, h4, q4⟩
  obtain ⟨A7, c7, rfl⟩ := h4.form
  clear b0 b1 b2
  obtain ⟨b0, b1, b2⟩ := HB.out _ ((((Q.refl _).trans q1).trans q2).trans q4)
  go_wp2_with fail
  refine (B2.out _ _ (h1.on (((Q.refl _).trans q2).trans q4))).mono ?_
  rintro e w5 ⟨u5, rfl, h5, q5⟩
  obtain ⟨A8, c8, rfl⟩ := h5.form
  clear b0 b1 b2
  go_wp2_with fail
  refine (S1.out _ _ _ (h4.on ((Q.refl _).trans q5)) h5).mono ?_
  rintro e w6 ⟨rfl, q6⟩
  go_wp2_with fail
  refine (O1.out _ _ (h1.on (((((Q.refl _).trans q2).trans q4).trans q5).trans q6))).mono ?_
  rintro e w7 ⟨rfl, q7⟩
  go_wp2_with fail
  refine (O2.out _ _ (h1.on ((((((Q.refl _).trans q2).trans q4).trans q5).trans q6).trans q7))).mono ?_
  rintro e w8 ⟨rfl, q8⟩
  go_wp2_with fail
  refine (S3.out _ _ _ (h1.on (((((((Q.refl _).trans q2).trans q4).trans q5).trans q6).trans q7).trans q8)) (h2.on ((((((Q.refl _).trans q4).trans q5).trans q6).trans q7).trans q8))).mono ?_
  rintro e w9 ⟨rfl, q9⟩
  go_wp2_with fail
  refine (S2.out _ _ _ (h1.on ((((((((Q.refl _).trans q2).trans q4).trans q5).trans q6).trans q7).trans q8).trans q9)) (h2.on (((((((Q.refl _).trans q4).trans q5).trans q6).trans q7).trans q8).trans q9))).mono ?_
  rintro e w10 ⟨rfl, q10⟩
  cases R with
  | true =>
    go_wp2_with fail
    refine (AW.out _).mono ?_
    rintro e w12 ⟨rfl, q12⟩
    go_wp2
    go_ret
    exact ⟨rfl, (((((((((((Q.refl _).alloc _).trans q1).trans q2).trans q4).trans q5).trans q6).trans q7).trans q8).trans q9).trans q10).trans q12⟩
  | false =>
    go_wp2_with fail
    refine (AW.out _).mono ?_
    rintro e w12 ⟨rfl, q12⟩
    go_wp2
    go_ret
    exact ⟨rfl, (((((((((((Q.refl _).alloc _).trans q1).trans q2).trans q4).trans q5).trans q6).trans q7).trans q8).trans q9).trans q10).trans q12⟩

set_option maxRecDepth 100000 in
theorem lifted (os : Os) (started : os.Started) (H : Type) (enc : TypeId × Value → H) :
    ReturnsInHanded {} Try.checked os 4 .any (Rows.partsBeginsSpec.pre6 enc Try.prog Try.f4 Rows.partsBeginsRow.domain false) (Rows.partsBeginsSpec.post enc Try.prog Try.f4 false true false false) := by
  refine returnsInHanded_of_change (C := Try.checked) own started (by kernel_rfl) Try.func4
    (ChangeSpec.witness6 (enc := enc) (C := Try.checked) false ⟨#[], #[.slice none 0 0, .slice none 0 0, .agg #[.int .u64 0, .string ByteArray.empty, .slice none 0 0]], []⟩ 8 (by kernel_rfl) (by kernel_rfl) (by kernel_rfl) (by kernel_rfl)) ?_
  intro W base args ds gs before hval0 hW hcnd _
  have hval : ∀ (j : Nat) t v, Try.f4.params[j]? = some t → args[j]? = some v → Value.okWide Try.prog W .any base t v := hval0
  have hW' := hW
  obtain ⟨p, q, hA0, hV, rfl, hfz, hnd⟩ := hW
  have hA : DataW.TrodAll enc Try.prog W 0 (fun _ => true) true Try.f4.params.toList args.toList ds p := hA0
  rw [Try.params4] at hA hval
  obtain ⟨v0, vs0, d0, ds0, p0, q0, hargs, rfl, rfl, h0, r0⟩ := trodAll_cons hA
  obtain ⟨v1, vs1, d1, ds1, p1, q1, rfl, rfl, rfl, h1, r1⟩ := trodAll_cons r0
  obtain ⟨v2, vs2, d2, ds2, p2, q2, rfl, rfl, rfl, h2, r2⟩ := trodAll_cons r1
  obtain ⟨rfl, rfl, rfl⟩ := trodAll_nil r2
  obtain rfl : args = #[v0, v1, v2] := by cases args; simp_all
  obtain ⟨rfl, rfl⟩ := trodVars_none hV
  clear hA0 hval0
  simp only [List.append_nil] at hW'
  have hlt : ∀ x ∈ p0 ++ p1 ++ p2, x.block < W.heap.size := fun x hx => by simpa using hW'.lt x (by simpa using hx)
  obtain ⟨l0, t0, z0⟩ := open_upls (hval 0 22 v0 rfl rfl) h0
  obtain ⟨l1, t1, z1⟩ := open_upls (hval 1 22 v1 rfl rfl) h1
  obtain ⟨x2, y2, rfl, u2, t2⟩ := open_upl (hval 2 40 v2 rfl rfl) h2
  refine (walk l0 v0 l1 v1 x2 y2 W t0 z0 t1 z1 u2 t2).mono fun e W' ⟨he, bel⟩ => ?_
  subst he
  refine ⟨_, rfl, _, _, _, [], _, [], hW', trodAll_mk1 (shut_bool Try.underlying4 _), (trodAll_cons_mk (Below.trod laid (by kernel_rfl) (of_decide_eq_true (by kernel_rfl)) h0 bel (fun x hx => hlt x (by simp [hx]))) (trodAll_cons_mk (Below.trod laid (by kernel_rfl) (of_decide_eq_true (by kernel_rfl)) h1 bel (fun x hx => hlt x (by simp [hx]))) (trodAll_cons_mk (Below.trod laid (by kernel_rfl) (of_decide_eq_true (by kernel_rfl)) h2 bel (fun x hx => hlt x (by simp [hx]))) trodAll_mk0))), rfl, Below.frame bel _, fun h => by cases h⟩

theorem over : Rows.partsBeginsRow.holds Try.pinned (OpenSpec.ofChange Rows.partsBeginsSpec) :=
  OpenClaim.holds_of_wide 4 Try.f4 rfl rfl rfl rfl rfl rfl rfl ⟨rfl, rfl, rfl, rfl, rfl⟩ rfl rfl rfl rfl rfl (by kernel_rfl) Try.func4 (by kernel_rfl)
    (of_decide_eq_true (by kernel_rfl)) (by unfold Func.isWrapper; first | (rw [if_pos (by decide +kernel)]; kernel_rfl) | (rw [if_neg (by decide +kernel)]; exact ⟨rfl, rfl⟩))
    (fun os started H enc _ => lifted os started H enc)

theorem proved : Rows.PartsBeginsSaid := over
#print axioms proved
end Go.Proofs.Ytlahccmlnbdekaa.partsBegins
