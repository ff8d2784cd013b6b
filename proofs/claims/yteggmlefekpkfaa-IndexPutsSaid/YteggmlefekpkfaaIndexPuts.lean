/-
  Proved: whatever index, key and versions IndexPuts is called with, it returns true and leaves what it was given as it was. No condition.
-/
import Derived.Test.YteggmlefekpkfaaEBox
namespace Go.Proofs.Yteggmlefekpkfaa.indexPuts
open Go.ChangeShapes Go.WideShapes Go.ChangeAt Go.RowKit
open Go.ChangeMaps (open_string shut_string)
set_option linter.unusedVariables false
set_option linter.unusedSimpArgs false

set_option maxHeartbeats 4000000 in
set_option maxRecDepth 100000 in
theorem walk (l : List Ent) (v : Value) (key : ByteArray) (c : List Ver) (vc : Value) (w : World) (t0 : Ents w w.heap.size v l) (z0 : l.length ≤ maxLen) (wk : key.size ≤ maxLen) (t2 : Vers w w.heap.size vc c) (z2 : c.length ≤ maxLen) :
    Calls Try.prog 3 #[v, .string key, vc] w fun e w' => e = .returned (.bool true) ∧ Q w w' := by
  obtain ⟨L, hL, hlen, hfew, htiny, FW⟩ := few_allE l v w z0 t0
  obtain ⟨k, hk, hks, FK⟩ := few_key key wk
  obtain ⟨M, hM, hMl, hMo, hMd, FC⟩ := few_allV c vc w z2 t2
  have FW2 := few_again hlen hfew
  have hs := tiny_small (by omega) htiny
  obtain ⟨P, n, hP⟩ := putI_ex L k M
  have hPs := tiny_small (by have := putI_len hP; omega) (putI_tiny hP htiny ⟨hks, hMl, hMd⟩)
  have PU := putE_hid hP hs (by omega) (by omega)
  have RP := rputE_hid hP hs (by omega) (by omega)
  have S1 := sameE_yes P hPs
  have S2 := sameE_yes L hs
  obtain ⟨R, hR⟩ := chkI_ex L
  have CK := check_hid hR hs
  have RM : Hid (∀ b u, Ents b b.heap.size u L → Calls Try.prog 16 #[u] b fun e w' => e = .returned (.bool R) ∧ Q b w') := Lib.hid (fun b u hu => rmayE_any L u b R hR hs hu)
  have hE : (chkE R == 0) = R := by cases R <;> rfl
  clear hL hk hM hfew hP hPs hs hR htiny hMo hMd t0 t2
  go_enter Try.func3, Try.ntmps3
  go_wp2_with fail
  refine (FW.out _ (Q.refl _)).mono ?_
  rintro e w1 ⟨v1, rfl, e1, q1⟩
  have t1 := Lib.hid e1
  clear e1
  go_wp2_with fail
  refine (FK.out _).mono ?_
  rintro e w2 ⟨rfl, q2⟩
  go_wp2_with fail
  refine (FC.out _ (((Q.refl _).trans q1).trans q2)).mono ?_
  rintro e w3 ⟨v3, rfl, e3, q3⟩
  have t3 := Lib.hid e3
  clear e3
  go_wp2_with fail
  refine (FW2.out _ _ (t1.out.on (((Q.refl _).trans q2).trans q3))).mono ?_
  rintro e w4 ⟨v4, rfl, e4, q4⟩
  have t4 := Lib.hid e4
  clear e4
  go_wp2_with fail
  refine (PU.out _ _ _ (t1.out.on ((((Q.refl _).trans q2).trans q3).trans q4)) (t3.out.on ((Q.refl _).trans q4))).mono ?_
  rintro e w5 ⟨v5, rfl, e5, q5⟩
  have t5 := Lib.hid e5
  clear e5
  go_wp2_with fail
  refine (RP.out _ _ _ (t1.out.on (((((Q.refl _).trans q2).trans q3).trans q4).trans q5)) (t3.out.on (((Q.refl _).trans q4).trans q5))).mono ?_
  rintro e w6 ⟨v6, rfl, e6, q6⟩
  have t6 := Lib.hid e6
  clear e6
  go_wp2_with fail
  refine (S1.out _ _ _ (t5.out.on ((Q.refl _).trans q6)) (t6.out.on (Q.refl _))).mono ?_
  rintro e w7 ⟨rfl, q7⟩
  go_wp2_with fail
  refine (CK.out _ _ (t1.out.on (((((((Q.refl _).trans q2).trans q3).trans q4).trans q5).trans q6).trans q7))).mono ?_
  rintro e w8 ⟨rfl, q8⟩
  go_wp2_with fail
  refine (RM.out _ _ (t1.out.on ((((((((Q.refl _).trans q2).trans q3).trans q4).trans q5).trans q6).trans q7).trans q8))).mono ?_
  rintro e w9 ⟨rfl, q9⟩
  go_wp2_with fail
  refine (S2.out _ _ _ (t1.out.on (((((((((Q.refl _).trans q2).trans q3).trans q4).trans q5).trans q6).trans q7).trans q8).trans q9)) (t4.out.on ((((((Q.refl _).trans q5).trans q6).trans q7).trans q8).trans q9))).mono ?_
  rintro e w10 ⟨rfl, q10⟩
  go_wp2_with fail
  refine (awake_any _).mono ?_
  rintro e w11 ⟨rfl, q11⟩
  clear FW FK FC FW2 PU RP S1 S2 CK RM t1 t3 t4 t5 t6
  go_wp2
  go_ret
  exact ⟨rfl, ((((((((((((Q.refl _).trans q1).trans q2).trans q3).trans q4).trans q5).trans q6).trans q7).trans q8).trans q9).trans q10).trans q11)⟩

set_option maxRecDepth 100000 in
theorem lifted (os : Os) (started : os.Started) (H : Type) (enc : TypeId × Value → H) :
    ReturnsInHanded {} Try.checked os 3 .any (Rows.indexPutsSpec.pre6 enc Try.prog Try.f3 Rows.indexPutsRow.domain false) (Rows.indexPutsSpec.post enc Try.prog Try.f3 false true false false) := by
  refine returnsInHanded_of_change (C := Try.checked) own started (by kernel_rfl) Try.func3
    (ChangeSpec.witness6 (enc := enc) (C := Try.checked) false ⟨#[], #[.slice none 0 0, .string ByteArray.empty, .slice none 0 0], []⟩ 8 (by kernel_rfl) (by kernel_rfl) (by kernel_rfl) (by kernel_rfl)) ?_
  intro W base args ds gs before hval0 hW hcnd _
  have hval : ∀ (j : Nat) t v, Try.f3.params[j]? = some t → args[j]? = some v → Value.okWide Try.prog W .any base t v := hval0
  have hW' := hW
  obtain ⟨p, q, hA0, hV, rfl, hfz, hnd⟩ := hW
  have hA : DataW.TrodAll enc Try.prog W 0 (fun _ => true) true Try.f3.params.toList args.toList ds p := hA0
  rw [Try.params3] at hA hval
  obtain ⟨v0, vs0, d0, ds0, p0, q0, hargs, rfl, rfl, h0, r0⟩ := trodAll_cons hA
  obtain ⟨v1, vs1, d1, ds1, p1, q1, rfl, rfl, rfl, h1, r1⟩ := trodAll_cons r0
  obtain ⟨v2, vs2, d2, ds2, p2, q2, rfl, rfl, rfl, h2, r2⟩ := trodAll_cons r1
  obtain ⟨rfl, rfl, rfl⟩ := trodAll_nil r2
  obtain rfl : args = #[v0, v1, v2] := by cases args; simp_all
  obtain ⟨rfl, rfl⟩ := trodVars_none hV
  clear hA0 hval0
  simp only [List.append_nil] at hW'
  have hlt : ∀ x ∈ p0 ++ p1 ++ p2, x.block < W.heap.size := fun x hx => by simpa using hW'.lt x (by simpa using hx)
  obtain ⟨l0, t0, z0⟩ := open_ents (hval 0 22 v0 rfl rfl) h0
  obtain ⟨a1, rfl, -, -, w1⟩ := open_string Try.underlying9 (hval 1 9 v1 rfl rfl) h1
  obtain ⟨l2, t2, z2⟩ := open_vers (hval 2 23 v2 rfl rfl) h2
  refine (walk l0 v0 a1 l2 v2 W t0 z0 w1 t2 z2).mono fun e W' ⟨he, bel⟩ => ?_
  subst he
  refine ⟨_, rfl, _, _, _, [], _, [], hW', trodAll_mk1 (shut_bool Try.underlying4 _), (trodAll_cons_mk (Below.trod laid (by kernel_rfl) (of_decide_eq_true (by kernel_rfl)) h0 bel (fun x hx => hlt x (by simp [hx]))) (trodAll_cons_mk (Below.trod laid (by kernel_rfl) (of_decide_eq_true (by kernel_rfl)) h1 bel (fun x hx => hlt x (by simp [hx]))) (trodAll_cons_mk (Below.trod laid (by kernel_rfl) (of_decide_eq_true (by kernel_rfl)) h2 bel (fun x hx => hlt x (by simp [hx]))) trodAll_mk0))), rfl, Below.frame bel _, fun h => by cases h⟩

theorem over : Rows.indexPutsRow.holds Try.pinned (OpenSpec.ofChange Rows.indexPutsSpec) :=
  OpenClaim.holds_of_wide 3 Try.f3 rfl rfl rfl rfl rfl rfl rfl ⟨rfl, rfl, rfl, rfl, rfl⟩ rfl rfl rfl rfl rfl (by kernel_rfl) Try.func3 (by kernel_rfl)
    (of_decide_eq_true (by kernel_rfl)) (by unfold Func.isWrapper; first | (rw [if_pos (by decide +kernel)]; kernel_rfl) | (rw [if_neg (by decide +kernel)]; exact ⟨rfl, rfl⟩))
    (fun os started H enc _ => lifted os started H enc)

theorem proved : Rows.IndexPutsSaid := over
#print axioms proved
end Go.Proofs.Yteggmlefekpkfaa.indexPuts
