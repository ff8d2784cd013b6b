/-
  Proved: whatever indices and key IndexTells is called with, it returns true and leaves what it was given as it was. No condition.
-/
import Derived.Test.YteggmlefekpkfaaEBox
namespace Go.Proofs.Yteggmlefekpkfaa.indexTells
open Go.ChangeShapes Go.WideShapes Go.ChangeAt Go.RowKit
open Go.ChangeMaps (open_string shut_string)
set_option linter.unusedVariables false
set_option linter.unusedSimpArgs false

set_option maxHeartbeats 4000000 in
set_option maxRecDepth 100000 in
theorem walk (l : List Ent) (v : Value) (m : List Ent) (vm : Value) (key : ByteArray) (w : World) (t0 : Ents w w.heap.size v l) (z0 : l.length ≤ maxLen) (t2 : Ents w w.heap.size vm m) (z2 : m.length ≤ maxLen) (wk : key.size ≤ maxLen) :
    Calls Try.prog 4 #[v, vm, .string key] w fun e w' => e = .returned (.bool true) ∧ Q w w' := by
  obtain ⟨L, hL, hlen, hfew, htiny, FW⟩ := few_allE l v w z0 t0
  obtain ⟨M, hM, hMl, hMf, hMt, FM⟩ := few_allE m vm w z2 t2
  obtain ⟨k, hk, hks, FK⟩ := few_key key wk
  have hs := tiny_small (by omega) htiny
  have hsM := tiny_small (by omega) hMt
  have hokL : ∀ e ∈ L, ∀ x ∈ e.L, okV x := by
    intro e he x hx
    rw [hL] at he
    obtain ⟨y, hy, rfl⟩ := fewE_mem he
    exact fewV_okV (t0.okVs y hy) x hx
  have CT : Hid (∀ b u, Ents b b.heap.size u L → Calls Try.prog 18 #[u] b fun e w' => e = .returned (.tuple #[.int .i64 (manyE L : Nat), .int .i64 (octE L : Nat)]) ∧ Q b w') := Lib.hid (fun b u hu => count_any L u b hs hu)
  have RC : Hid (∀ b u, Ents b b.heap.size u L → Calls Try.prog 24 #[u] b fun e w' => e = .returned (.int .i64 (manyE L : Nat)) ∧ Q b w') := Lib.hid (fun b u hu => rmany_any L u b hs hu)
  have RO : Hid (∀ b u, Ents b b.heap.size u L → Calls Try.prog 25 #[u] b fun e w' => e = .returned (.int .i64 (octE L : Nat)) ∧ Q b w') := Lib.hid (fun b u hu => roct_any L u b hs hu)
  have AT := at_hid L k (by omega)
  have RA : Hid (∀ b u, Ents b b.heap.size u L → Calls Try.prog 20 #[u, .string k] b fun e w' => e = .returned (.int .i64 (atE L k : Nat)) ∧ Q b w') := Lib.hid (fun b u hu => rat_any L k u b (by omega) hu)
  have GT := getE_hid L k hs hokL
  have RG : Hid (∀ b u, Ents b b.heap.size u L → Calls Try.prog 23 #[u, .string k] b fun e w' => ∃ v', e = .returned v' ∧ Vers w' w'.heap.size v' (getE L k) ∧ Q b w') := Lib.hid (fun b u hu => (rgetE_any L k u b hs hu))
  have SV := sameV_yes (getE L k) (by have := (getE_small k htiny).1; omega)
  obtain ⟨R, hR⟩ := sameEP_ex L M
  have SA : Hid (∀ b u v, Ents b b.heap.size u L → Ents b b.heap.size v M → Calls Try.prog 26 #[u, v] b fun e w' => e = .returned (.bool R) ∧ Q b w') := Lib.hid (fun b u v hu hv => sameE_any L M u v b R hR hs hsM hu hv)
  have RS : Hid (∀ b u v, Ents b b.heap.size u L → Ents b b.heap.size v M → Calls Try.prog 14 #[u, v] b fun e w' => e = .returned (.bool R) ∧ Q b w') := Lib.hid (fun b u v hu hv => by
    refine (rsameE_any L M u v b R hR hs hsM hu hv).mono ?_
    rintro e w' ⟨rfl, d⟩
    exact ⟨rfl, d.q⟩)
  clear hL hk hM hfew hMf hMt hs hsM hR htiny hokL t0 t2
  go_enter Try.func4, Try.ntmps4
  go_wp2_with fail
  refine (FW.out _ (Q.refl _)).mono ?_
  rintro e w1 ⟨v1, rfl, e1, q1⟩
  have t1 := Lib.hid e1
  clear e1
  go_wp2_with fail
  refine (FM.out _ ((Q.refl _).trans q1)).mono ?_
  rintro e w2 ⟨v2, rfl, e2, q2⟩
  have t2 := Lib.hid e2
  clear e2
  go_wp2_with fail
  refine (FK.out _).mono ?_
  rintro e w3 ⟨rfl, q3⟩
  go_wp2_with fail
  refine (CT.out _ _ (t1.out.on (((Q.refl _).trans q2).trans q3))).mono ?_
  rintro e w4 ⟨rfl, q4⟩
  go_wp2_with fail
  refine (AT.out _ _ (t1.out.on ((((Q.refl _).trans q2).trans q3).trans q4))).mono ?_
  rintro e w5 ⟨rfl, q5⟩
  go_wp2_with fail
  refine (RA.out _ _ (t1.out.on (((((Q.refl _).trans q2).trans q3).trans q4).trans q5))).mono ?_
  rintro e w6 ⟨rfl, q6⟩
  go_wp2_with fail
  refine (GT.out _ _ (t1.out.on ((((((Q.refl _).trans q2).trans q3).trans q4).trans q5).trans q6))).mono ?_
  rintro e w7 ⟨v7, rfl, e7, q7⟩
  have t7 := Lib.hid e7
  clear e7
  go_wp2_with fail
  refine (RG.out _ _ (t1.out.on (((((((Q.refl _).trans q2).trans q3).trans q4).trans q5).trans q6).trans q7))).mono ?_
  rintro e w8 ⟨v8, rfl, e8, q8⟩
  have t8 := Lib.hid e8
  clear e8
  go_wp2_with fail
  refine (SV.out _ _ _ (t7.out.on ((Q.refl _).trans q8)) (t8.out.on (Q.refl _))).mono ?_
  rintro e w9 ⟨rfl, q9⟩
  go_wp2_with fail
  refine (RC.out _ _ (t1.out.on (((((((((Q.refl _).trans q2).trans q3).trans q4).trans q5).trans q6).trans q7).trans q8).trans q9))).mono ?_
  rintro e w10 ⟨rfl, q10⟩
  go_wp2_with fail
  refine (RO.out _ _ (t1.out.on ((((((((((Q.refl _).trans q2).trans q3).trans q4).trans q5).trans q6).trans q7).trans q8).trans q9).trans q10))).mono ?_
  rintro e w11 ⟨rfl, q11⟩
  go_wp2_with fail
  refine (SA.out _ _ _ (t1.out.on (((((((((((Q.refl _).trans q2).trans q3).trans q4).trans q5).trans q6).trans q7).trans q8).trans q9).trans q10).trans q11)) (t2.out.on ((((((((((Q.refl _).trans q3).trans q4).trans q5).trans q6).trans q7).trans q8).trans q9).trans q10).trans q11))).mono ?_
  rintro e w12 ⟨rfl, q12⟩
  go_wp2_with fail
  refine (RS.out _ _ _ (t1.out.on ((((((((((((Q.refl _).trans q2).trans q3).trans q4).trans q5).trans q6).trans q7).trans q8).trans q9).trans q10).trans q11).trans q12)) (t2.out.on (((((((((((Q.refl _).trans q3).trans q4).trans q5).trans q6).trans q7).trans q8).trans q9).trans q10).trans q11).trans q12))).mono ?_
  rintro e w13 ⟨rfl, q13⟩
  go_wp2_with fail
  refine (awake_any _).mono ?_
  rintro e w14 ⟨rfl, q14⟩
  clear FW FM FK CT RC RO AT RA GT RG SV SA RS t1 t2 t7 t8
  go_wp2
  go_ret
  exact ⟨rfl, (((((((((((((((Q.refl _).trans q1).trans q2).trans q3).trans q4).trans q5).trans q6).trans q7).trans q8).trans q9).trans q10).trans q11).trans q12).trans q13).trans q14)⟩

set_option maxRecDepth 100000 in
theorem lifted (os : Os) (started : os.Started) (H : Type) (enc : TypeId × Value → H) :
    ReturnsInHanded {} Try.checked os 4 .any (Rows.indexTellsSpec.pre6 enc Try.prog Try.f4 Rows.indexTellsRow.domain false) (Rows.indexTellsSpec.post enc Try.prog Try.f4 false true false false) := by
  refine returnsInHanded_of_change (C := Try.checked) own started (by kernel_rfl) Try.func4
    (ChangeSpec.witness6 (enc := enc) (C := Try.checked) false ⟨#[], #[.slice none 0 0, .slice none 0 0, .string ByteArray.empty], []⟩ 8 (by kernel_rfl) (by kernel_rfl) (by kernel_rfl) (by kernel_rfl)) ?_
  intro W base args ds gs before hval0 hW hcnd _
  have hval : ∀ (j : Nat) t v, Try.f4.params[j]? = some t → args[j]? = some v → Value.okWide Try.prog W .any base t v := hval0
  have hW' := hW
  obtain ⟨p, q, hA0, hV, rfl, hfz, hnd⟩ := hW
  have hA : DataW.TrodAll enc Try.prog W 0 (fun _ => true) true Try.f4.params.toList args.toList ds p := hA0
  rw [Try.params4] at hA hval
  obtain ⟨v0, vs0, d0, ds0, p0, q0, hargs, rfl, rfl, h0, r0⟩ := trodAll_cons hA
  obtain ⟨v1, vs1, d1, ds1, p1, q1, rfl, rfl, rfl, h1, r1⟩ := trodAll_cons r0
  obtain ⟨v2, vs2, d2, ds2, p2, q2, rfl, rfl, rfl, h2, r2⟩ := trodAll_cons r1
  obtain ⟨rfl, rfl, rfl⟩ := trodAll_nil r2
  obtain rfl : args = #[v0, v1, v2] := by cases args; simp_all
  obtain ⟨rfl, rfl⟩ := trodVars_none hV
  clear hA0 hval0
  simp only [List.append_nil] at hW'
  have hlt : ∀ x ∈ p0 ++ p1 ++ p2, x.block < W.heap.size := fun x hx => by simpa using hW'.lt x (by simpa using hx)
  obtain ⟨l0, t0, z0⟩ := open_ents (hval 0 22 v0 rfl rfl) h0
  obtain ⟨l1, t1, z1⟩ := open_ents (hval 1 22 v1 rfl rfl) h1
  obtain ⟨a2, rfl, -, -, w2⟩ := open_string Try.underlying9 (hval 2 9 v2 rfl rfl) h2
  refine (walk l0 v0 l1 v1 a2 W t0 z0 t1 z1 w2).mono fun e W' ⟨he, bel⟩ => ?_
  subst he
  refine ⟨_, rfl, _, _, _, [], _, [], hW', trodAll_mk1 (shut_bool Try.underlying4 _), (trodAll_cons_mk (Below.trod laid (by kernel_rfl) (of_decide_eq_true (by kernel_rfl)) h0 bel (fun x hx => hlt x (by simp [hx]))) (trodAll_cons_mk (Below.trod laid (by kernel_rfl) (of_decide_eq_true (by kernel_rfl)) h1 bel (fun x hx => hlt x (by simp [hx]))) (trodAll_cons_mk (Below.trod laid (by kernel_rfl) (of_decide_eq_true (by kernel_rfl)) h2 bel (fun x hx => hlt x (by simp [hx]))) trodAll_mk0))), rfl, Below.frame bel _, fun h => by cases h⟩

theorem over : Rows.indexTellsRow.holds Try.pinned (OpenSpec.ofChange Rows.indexTellsSpec) :=
  OpenClaim.holds_of_wide 4 Try.f4 rfl rfl rfl rfl rfl rfl rfl ⟨rfl, rfl, rfl, rfl, rfl⟩ rfl rfl rfl rfl rfl (by kernel_rfl) Try.func4 (by kernel_rfl)
    (of_decide_eq_true (by kernel_rfl)) (by unfold Func.isWrapper; first | (rw [if_pos (by decide +kernel)]; kernel_rfl) | (rw [if_neg (by decide +kernel)]; exact ⟨rfl, rfl⟩))
    (fun os started H enc _ => lifted os started H enc)

theorem proved : Rows.IndexTellsSaid := over
#print axioms proved
end Go.Proofs.Yteggmlefekpkfaa.indexTells
