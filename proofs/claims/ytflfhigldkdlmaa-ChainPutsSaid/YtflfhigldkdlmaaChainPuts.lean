/-
  Proved: whatever chain, state and version ChainPuts is called with, it returns true and leaves what it was given as it was. No condition.
-/
import Derived.Test.YtflfhigldkdlmaaVBlk
import Derived.Deep.DeepCutAuto
import Derived.Deep.RegionHeld3
namespace Go.Proofs.Ytflfhigldkdlmaa.chainPuts
open Go.ChangeShapes Go.WideShapes Go.ChangeAt Go.RowKit
open Go.ChangeMaps (open_string shut_string)
set_option linter.unusedVariables false
set_option linter.unusedSimpArgs false

set_option maxHeartbeats 4000000 in
set_option maxRecDepth 100000 in
theorem walk (l : List Ver) (v : Value) (s : Int) (x : Ver) (w : World) (t0 : Vers w w.heap.size v l) (z0 : l.length ≤ maxLen) (w1 : (Lit.int .i64 s).wf = true) (ux : okV x) :
    Calls Try.prog 3 #[v, .int .i64 s, ver x] w fun e w' => e = .returned (.bool true) ∧ Q w w' := by
  obtain ⟨L, hL, hlen, hfew, hok, -⟩ := few_all l v w z0 t0
  have OK := Lib.hid hok
  have T0 : Hid (Vers w w.heap.size v l) := Lib.hid t0
  have FW : Hid (∀ b (hu : Vers b b.heap.size v l), Calls Try.prog 10 #[v] b fun e w' => ∃ v', e = .returned v' ∧ OwnV b.heap.size w' v' L ∧ Q b w') := Lib.hid (fun b hu => by rw [hL]; exact few_any l v b z0 hu)
  have ON := Lib.hid (fun b => one_any x b ux)
  have hy := oneV_ok ux
  obtain ⟨y, hyd⟩ : ∃ y, y = oneV x := ⟨_, rfl⟩
  rw [← hyd] at ON hy
  rw [ver, ver] at ON
  have qa : Q w (w.alloc (.cells #[.int .u64 (x.id : Nat), .string x.data, .bool x.mark, .int .i64 x.tm] 25)) := (Q.refl w).alloc _
  have FW2 : Hid (∀ (b : World) (u : Value) (hu : Vers b b.heap.size u L), Calls Try.prog 10 #[u] b fun e w' => ∃ v', e = .returned v' ∧ OwnV b.heap.size w' v' L ∧ Q b w') := Lib.hid (fun b u hu => by
    have := few_any L u b (by unfold maxLen; omega) hu
    rw [hfew] at this
    exact this)
  obtain ⟨PL, pc, hP⟩ := putC_ex L s y
  have HPL := Lib.hid (putC_okV hP hok hy)
  have HPN := Lib.hid (putC_len hP)
  obtain ⟨DL, dc, hD⟩ := delC_ex L s y.id y.tm
  have HDL := Lib.hid (delC_okV hD hok hy.1 hy.2.2.1 hy.2.2.2)
  have HDN := Lib.hid (delC_len hD)
  have PU : Hid (∀ (b : World) (u : Value) (hu : Vers b b.heap.size u L), Calls Try.prog 12 #[u, .int .i64 s, .agg #[.int .u64 (y.id : Nat), .string y.data, .bool y.mark, .int .i64 y.tm]] b fun e w' => ∃ v', e = .returned (.tuple #[v', .int .i64 (pc : Nat)]) ∧ OwnV b.heap.size w' v' PL ∧ Q b w') := Lib.hid (fun b u hu => put_any L u s y b PL pc hP (by omega) hy hu)
  have PU2 : Hid (∀ (b : World) (u : Value) (hu : Vers b b.heap.size u L), Calls Try.prog 13 #[u, .int .i64 s, .agg #[.int .u64 (y.id : Nat), .string y.data, .bool y.mark, .int .i64 y.tm]] b fun e w' => ∃ v', e = .returned (.tuple #[v', .int .i64 (pc : Nat)]) ∧ OwnV b.heap.size w' v' PL ∧ Q b w') := Lib.hid (fun b u hu => rput_any L u s y b PL pc hP (by omega) hy hu)
  have DE : Hid (∀ (b : World) (u : Value) (hu : Vers b b.heap.size u L), Calls Try.prog 14 #[u, .int .i64 s, .int .u64 (y.id : Nat), .int .i64 y.tm] b fun e w' => ∃ v', e = .returned (.tuple #[v', .int .i64 (dc : Nat)]) ∧ OwnV b.heap.size w' v' DL ∧ Q b w') := Lib.hid (fun b u hu => delete_any L u s y.id y.tm b DL dc hD (by omega) hy.1 hy.2.2.1 hy.2.2.2 hu)
  have DE2 : Hid (∀ (b : World) (u : Value) (hu : Vers b b.heap.size u L), Calls Try.prog 15 #[u, .int .i64 s, .int .u64 (y.id : Nat), .int .i64 y.tm] b fun e w' => ∃ v', e = .returned (.tuple #[v', .int .i64 (dc : Nat)]) ∧ OwnV b.heap.size w' v' DL ∧ Q b w') := Lib.hid (fun b u hu => rdelete_any L u s y.id y.tm b DL dc hD (by omega) hy.1 hy.2.2.1 hy.2.2.2 hu)
  have S1 : Hid (∀ (b : World) (u u2 : Value) (hu : Vers b b.heap.size u PL) (hu2 : Vers b b.heap.size u2 PL), Calls Try.prog 16 #[u, u2] b fun e w' => e = .returned (.bool true) ∧ Q b w') := Lib.hid (fun b u u2 hu hu2 => same_any PL u u2 b (Nat.le_trans HPN.out (by omega)) hu hu2)
  have S2 : Hid (∀ (b : World) (u u2 : Value) (hu : Vers b b.heap.size u DL) (hu2 : Vers b b.heap.size u2 DL), Calls Try.prog 16 #[u, u2] b fun e w' => e = .returned (.bool true) ∧ Q b w') := Lib.hid (fun b u u2 hu hu2 => same_any DL u u2 b (Nat.le_trans HDN.out (by omega)) hu hu2)
  have S3 : Hid (∀ (b : World) (u u2 : Value) (hu : Vers b b.heap.size u L) (hu2 : Vers b b.heap.size u2 L), Calls Try.prog 16 #[u, u2] b fun e w' => e = .returned (.bool true) ∧ Q b w') := Lib.hid (fun b u u2 hu hu2 => same_any L u u2 b (by omega) hu hu2)
  obtain ⟨R, hR⟩ := chkP_ex L
  have CK : Hid (∀ (b : World) (u : Value) (hu : Vers b b.heap.size u L), Calls Try.prog 17 #[u] b fun e w' => e = .returned (.int .i64 (chkE R)) ∧ Q b w') := Lib.hid (fun b u hu => check_any L u b R hR (by omega) hu)
  have CK2 : Hid (∀ (b : World) (u : Value) (hu : Vers b b.heap.size u L), Calls Try.prog 18 #[u] b fun e w' => e = .returned (.bool R) ∧ Q b w') := Lib.hid (fun b u hu => rcheck_any L u b R hR (by omega) hu)
  have hE : (chkE R == 0) = R := by cases R <;> rfl
  clear hP hD hR hok hfew hL t0 hyd
  rw [ver]
  go_enter Try.func3, Try.ntmps3
  go_upto_region 1 with fail
  go_cut [0] from 16 to 19 (fun V wx => Vers wx wx.heap.size V L ∧ wx.heap[w.heap.size]? = some (.cells #[.int .u64 (y.id : Nat), .string y.data, .bool y.mark, .int .i64 y.tm] 25) ∧ Q w wx)
  case first =>
    refine wp_region_held_drew (S := (fun w' => Q w w')) (by kernel_rfl) (Q.drew qa) (fun hHeld => ?_)
    refine wpAnyH_take (i := 0) (oi := _) (v := ?_) rfl (by kernel_rfl) (by kernel_rfl) (by kernel_rfl) (fun _ _ _ h => h) (Or.inl ⟨by rfl, ?_⟩) (by assumption) ?_
    rotate_left
    · (intro wx hSw; (try dsimp only at hSw); go_simp; (try with_reducible rfl))
    (try simp only [Act.put, List.getElem_toArray, List.getElem_cons_zero, List.getElem_cons_succ, List.setIfInBounds_toArray, List.set_cons_zero, List.set_cons_succ])
    refine wpAnyH_ready (rs := [1, 2]) (by kernel_rfl) (by simp) ?_
    refine AllReadyH.cons (o := _) rfl (fun K hK => ?_) (AllReadyH.cons (o := _) rfl (fun K hK => ?_) AllReadyH.nil)
    · go_simp
      go_at_call 10
      refine (FW.out _ (T0.out.on (Q.drew qa))).mono ?_
      rintro e wa ⟨v1, rfl, o1, qf⟩
      have qx := (Q.drew (Q.refl _)).trans qf
      obtain ⟨b0, b1, b2, b3⟩ := box_of qx
      refine hK.out _ _ (qa.trans qx) (fun hHeld => ?_)
      clear hK K
      (try simp only [Act.put, List.getElem_toArray, List.getElem_cons_zero, List.getElem_cons_succ, List.setIfInBounds_toArray, List.set_cons_zero, List.set_cons_succ])
      refine wpAnyH_ready (rs := [2]) (by kernel_rfl) (by simp) ?_
      refine AllReadyH.cons (o := _) rfl (fun K hK => ?_) AllReadyH.nil
      go_simp
      refine hK.out _ _ (qa.trans qx) (fun hHeld => ?_)
      clear hK K
      (try simp only [Act.put, List.getElem_toArray, List.getElem_cons_zero, List.getElem_cons_succ, List.setIfInBounds_toArray, List.set_cons_zero, List.set_cons_succ])
      clear b0 b1 b2 b3
      refine wpAnyH_ready (rs := [3]) (by kernel_rfl) (by simp) ?_
      refine AllReadyH.cons (o := _) rfl (fun K hK => ?_) AllReadyH.nil
      go_simp
      go_at_call 11
      refine (ON.out _).mono ?_
      rintro e wb ⟨rfl, qo⟩
      refine hK.out _ _ (qa.trans (qx.trans qo)) (fun hHeld => ?_)
      clear hK K
      (try simp only [Act.put, List.getElem_toArray, List.getElem_cons_zero, List.getElem_cons_succ, List.setIfInBounds_toArray, List.set_cons_zero, List.set_cons_succ])
      refine wpAnyH_take (i := 4) (oi := _) (v := ?_) rfl (by kernel_rfl) (by kernel_rfl) (by kernel_rfl) (fun _ _ _ h => h) (Or.inl ⟨by rfl, ?_⟩) (by assumption) ?_
      rotate_left
      · (intro wx hSw; (try dsimp only at hSw); go_simp; (try with_reducible rfl))
      (try simp only [Act.put, List.getElem_toArray, List.getElem_cons_zero, List.getElem_cons_succ, List.setIfInBounds_toArray, List.set_cons_zero, List.set_cons_succ])
      obtain ⟨b0, b1, b2, b3⟩ := box_of (qx.trans qo)
      obtain ⟨f0, f1, f2, f3⟩ := box_free (qx.trans qo)
      refine wpAnyH_ready (rs := [5]) (by kernel_rfl) (by simp) ?_
      refine AllReadyH.cons (o := _) rfl (fun K hK => ?_) AllReadyH.nil
      go_simp
      refine hK.out _ _ (((((qa.trans (qx.trans qo)).set (Nat.le_refl _) _).set (Nat.le_refl _) _).set (Nat.le_refl _) _).set (Nat.le_refl _) _) (fun hHeld => ?_)
      clear hK K
      (try simp only [Act.put, List.getElem_toArray, List.getElem_cons_zero, List.getElem_cons_succ, List.setIfInBounds_toArray, List.set_cons_zero, List.set_cons_succ])
      refine wpAnyH_done (by kernel_rfl) ?_ _
      go_wp2_with fail
      go_meet
      exact ⟨(((((OwnV.on o1 qo).setAt (by simp)).setAt (by simp)).setAt (by simp)).setAt (by simp)).vers OK.out, blk_set (blk_of (qx.trans qo)), ((((qa.trans (qx.trans qo)).set (Nat.le_refl _) _).set (Nat.le_refl _) _).set (Nat.le_refl _) _).set (Nat.le_refl _) _⟩
    · go_simp
      refine hK.out _ _ (Q.drew qa) (fun hHeld => ?_)
      clear hK K
      (try simp only [Act.put, List.getElem_toArray, List.getElem_cons_zero, List.getElem_cons_succ, List.setIfInBounds_toArray, List.set_cons_zero, List.set_cons_succ])
      refine wpAnyH_ready (rs := [1]) (by kernel_rfl) (by simp) ?_
      refine AllReadyH.cons (o := _) rfl (fun K hK => ?_) AllReadyH.nil
      go_simp
      go_at_call 10
      refine (FW.out _ (T0.out.on (Q.drew qa))).mono ?_
      rintro e wa ⟨v1, rfl, o1, qf⟩
      have qx := (Q.drew (Q.refl _)).trans qf
      refine hK.out _ _ (qa.trans qx) (fun hHeld => ?_)
      clear hK K
      (try simp only [Act.put, List.getElem_toArray, List.getElem_cons_zero, List.getElem_cons_succ, List.setIfInBounds_toArray, List.set_cons_zero, List.set_cons_succ])
      refine wpAnyH_ready (rs := [3]) (by kernel_rfl) (by simp) ?_
      refine AllReadyH.cons (o := _) rfl (fun K hK => ?_) AllReadyH.nil
      go_simp
      go_at_call 11
      refine (ON.out _).mono ?_
      rintro e wb ⟨rfl, qo⟩
      refine hK.out _ _ (qa.trans (qx.trans qo)) (fun hHeld => ?_)
      clear hK K
      (try simp only [Act.put, List.getElem_toArray, List.getElem_cons_zero, List.getElem_cons_succ, List.setIfInBounds_toArray, List.set_cons_zero, List.set_cons_succ])
      refine wpAnyH_take (i := 4) (oi := _) (v := ?_) rfl (by kernel_rfl) (by kernel_rfl) (by kernel_rfl) (fun _ _ _ h => h) (Or.inl ⟨by rfl, ?_⟩) (by assumption) ?_
      rotate_left
      · (intro wx hSw; (try dsimp only at hSw); go_simp; (try with_reducible rfl))
      (try simp only [Act.put, List.getElem_toArray, List.getElem_cons_zero, List.getElem_cons_succ, List.setIfInBounds_toArray, List.set_cons_zero, List.set_cons_succ])
      obtain ⟨b0, b1, b2, b3⟩ := box_of (qx.trans qo)
      obtain ⟨f0, f1, f2, f3⟩ := box_free (qx.trans qo)
      refine wpAnyH_ready (rs := [5]) (by kernel_rfl) (by simp) ?_
      refine AllReadyH.cons (o := _) rfl (fun K hK => ?_) AllReadyH.nil
      go_simp
      refine hK.out _ _ (((((qa.trans (qx.trans qo)).set (Nat.le_refl _) _).set (Nat.le_refl _) _).set (Nat.le_refl _) _).set (Nat.le_refl _) _) (fun hHeld => ?_)
      clear hK K
      (try simp only [Act.put, List.getElem_toArray, List.getElem_cons_zero, List.getElem_cons_succ, List.setIfInBounds_toArray, List.set_cons_zero, List.set_cons_succ])
      refine wpAnyH_done (by kernel_rfl) ?_ _
      go_wp2_with fail
      go_meet
      exact ⟨(((((OwnV.on o1 qo).setAt (by simp)).setAt (by simp)).setAt (by simp)).setAt (by simp)).vers OK.out, blk_set (blk_of (qx.trans qo)), ((((qa.trans (qx.trans qo)).set (Nat.le_refl _) _).set (Nat.le_refl _) _).set (Nat.le_refl _) _).set (Nat.le_refl _) _⟩
  case rest =>
  rename_i V0 wc
  obtain ⟨t1, hb, qc⟩ := hcut
  have t1 := Lib.hid t1
  have B : Hid (∀ b, Q wc b → _) := Lib.hid (fun b q => blk_cell hb q)
  clear FW ON T0 hb
  go_wp2_with fail
  refine (FW2.out _ _ t1.out).mono ?_
  rintro e w1 ⟨v2, rfl, o2, q1⟩
  have t2 := Lib.hid (o2.vers OK.out)
  clear o2
  obtain ⟨b0, b1, b2, b3⟩ := B.out _ ((Q.refl _).trans q1)
  go_wp2_with fail
  refine (PU.out _ _ (t1.out.on ((Q.refl _).trans q1))).mono ?_
  rintro e w2 ⟨u2, rfl, o2, q2⟩
  clear b0 b1 b2 b3
  have t12 := Lib.hid (o2.vers HPL.out)
  clear o2
  obtain ⟨b0, b1, b2, b3⟩ := B.out _ (((Q.refl _).trans q1).trans q2)
  go_wp2_with fail
  refine (PU2.out _ _ (t1.out.on (((Q.refl _).trans q1).trans q2))).mono ?_
  rintro e w3 ⟨u3, rfl, o3, q3⟩
  clear b0 b1 b2 b3
  have t13 := Lib.hid (o3.vers HPL.out)
  clear o3
  obtain ⟨b0, b1, b2, b3⟩ := B.out _ ((((Q.refl _).trans q1).trans q2).trans q3)
  go_wp2_with fail
  refine (DE.out _ _ (t1.out.on ((((Q.refl _).trans q1).trans q2).trans q3))).mono ?_
  rintro e w4 ⟨u4, rfl, o4, q4⟩
  clear b0 b1 b2 b3
  have t14 := Lib.hid (o4.vers HDL.out)
  clear o4
  obtain ⟨b0, b1, b2, b3⟩ := B.out _ (((((Q.refl _).trans q1).trans q2).trans q3).trans q4)
  go_wp2_with fail
  refine (DE2.out _ _ (t1.out.on (((((Q.refl _).trans q1).trans q2).trans q3).trans q4))).mono ?_
  rintro e w5 ⟨u5, rfl, o5, q5⟩
  clear b0 b1 b2 b3
  have t15 := Lib.hid (o5.vers HDL.out)
  clear o5
  go_wp2_with fail
  refine (S1.out _ _ _ (t12.out.on ((((Q.refl _).trans q3).trans q4).trans q5)) (t13.out.on (((Q.refl _).trans q4).trans q5))).mono ?_
  rintro e w6 ⟨rfl, q6⟩
  go_wp2_with fail
  refine (S2.out _ _ _ (t14.out.on (((Q.refl _).trans q5).trans q6)) (t15.out.on ((Q.refl _).trans q6))).mono ?_
  rintro e w7 ⟨rfl, q7⟩
  go_wp2_with fail
  refine (CK.out _ _ (t1.out.on ((((((((Q.refl _).trans q1).trans q2).trans q3).trans q4).trans q5).trans q6).trans q7))).mono ?_
  rintro e w8 ⟨rfl, q8⟩
  go_wp2_with fail
  refine (CK2.out _ _ (t1.out.on (((((((((Q.refl _).trans q1).trans q2).trans q3).trans q4).trans q5).trans q6).trans q7).trans q8))).mono ?_
  rintro e w9 ⟨rfl, q9⟩
  go_wp2_with fail
  refine (S3.out _ _ _ (t1.out.on ((((((((((Q.refl _).trans q1).trans q2).trans q3).trans q4).trans q5).trans q6).trans q7).trans q8).trans q9)) (t2.out.on (((((((((Q.refl _).trans q2).trans q3).trans q4).trans q5).trans q6).trans q7).trans q8).trans q9))).mono ?_
  rintro e w10 ⟨rfl, q10⟩
  go_wp2_with fail
  refine (awake_any _).mono ?_
  rintro e w11 ⟨rfl, q11⟩
  go_wp2
  go_ret
  exact ⟨by first | rfl | simp [hE], qc.trans ((((((((((((Q.refl _).trans q1).trans q2).trans q3).trans q4).trans q5).trans q6).trans q7).trans q8).trans q9).trans q10).trans q11)⟩

set_option maxRecDepth 100000 in
theorem lifted (os : Os) (started : os.Started) (H : Type) (enc : TypeId × Value → H) :
    ReturnsInHanded {} Try.checked os 3 .any (Rows.chainPutsSpec.pre6 enc Try.prog Try.f3 Rows.chainPutsRow.domain false) (Rows.chainPutsSpec.post enc Try.prog Try.f3 false true false false) := by
  refine returnsInHanded_of_change (C := Try.checked) own started (by kernel_rfl) Try.func3
    (ChangeSpec.witness6 (enc := enc) (C := Try.checked) false ⟨#[], #[.slice none 0 0, .int .i64 0, .agg #[.int .u64 0, .string ByteArray.empty, .bool false, .int .i64 0]], []⟩ 8 (by kernel_rfl) (by kernel_rfl) (by kernel_rfl) (by kernel_rfl)) ?_
  intro W base args ds gs before hval0 hW hcnd _
  have hval : ∀ (j : Nat) t v, Try.f3.params[j]? = some t → args[j]? = some v → Value.okWide Try.prog W .any base t v := hval0
  have hW' := hW
  obtain ⟨p, q, hA0, hV, rfl, hfz, hnd⟩ := hW
  have hA : DataW.TrodAll enc Try.prog W 0 (fun _ => true) true Try.f3.params.toList args.toList ds p := hA0
  rw [Try.params3] at hA hval
  obtain ⟨v0, vs0, d0, ds0, p0, q0, hargs, rfl, rfl, h0, r0⟩ := trodAll_cons hA
  obtain ⟨v1, vs1, d1, ds1, p1, q1, rfl, rfl, rfl, h1, r1⟩ := trodAll_cons r0
  obtain ⟨v2, vs2, d2, ds2, p2, q2, rfl, rfl, rfl, h2, r2⟩ := trodAll_cons r1
  obtain ⟨rfl, rfl, rfl⟩ := trodAll_nil r2
  obtain rfl : args = #[v0, v1, v2] := by cases args; simp_all
  obtain ⟨rfl, rfl⟩ := trodVars_none hV
  clear hA0 hval0
  simp only [List.append_nil] at hW'
  have hlt : ∀ x ∈ p0 ++ p1 ++ p2, x.block < W.heap.size := fun x hx => by simpa using hW'.lt x (by simpa using hx)
  obtain ⟨l0, t0, z0⟩ := open_vers (hval 0 22 v0 rfl rfl) h0
  obtain ⟨a1, rfl, -, -, w1⟩ := open_int Try.underlying3 (hval 1 3 v1 rfl rfl) h1
  obtain ⟨x2, rfl, u2⟩ := open_ver (hval 2 25 v2 rfl rfl) h2
  refine (walk l0 v0 a1 x2 W t0 z0 w1 u2).mono fun e W' ⟨he, bel⟩ => ?_
  subst he
  refine ⟨_, rfl, _, _, _, [], _, [], hW', trodAll_mk1 (shut_bool Try.underlying4 _), (trodAll_cons_mk (Below.trod laid (by kernel_rfl) (of_decide_eq_true (by kernel_rfl)) h0 bel (fun x hx => hlt x (by simp [hx]))) (trodAll_cons_mk (Below.trod laid (by kernel_rfl) (of_decide_eq_true (by kernel_rfl)) h1 bel (fun x hx => hlt x (by simp [hx]))) (trodAll_cons_mk (Below.trod laid (by kernel_rfl) (of_decide_eq_true (by kernel_rfl)) h2 bel (fun x hx => hlt x (by simp [hx]))) trodAll_mk0))), rfl, Below.frame bel _, fun h => by cases h⟩

theorem over : Rows.chainPutsRow.holds Try.pinned (OpenSpec.ofChange Rows.chainPutsSpec) :=
  OpenClaim.holds_of_wide 3 Try.f3 rfl rfl rfl rfl rfl rfl rfl ⟨rfl, rfl, rfl, rfl, rfl⟩ rfl rfl rfl rfl rfl (by kernel_rfl) Try.func3 (by kernel_rfl)
    (of_decide_eq_true (by kernel_rfl)) (by unfold Func.isWrapper; first | (rw [if_pos (by decide +kernel)]; kernel_rfl) | (rw [if_neg (by decide +kernel)]; exact ⟨rfl, rfl⟩))
    (fun os started H enc _ => lifted os started H enc)

theorem proved : Rows.ChainPutsSaid := over
#print axioms proved
end Go.Proofs.Ytflfhigldkdlmaa.chainPuts
