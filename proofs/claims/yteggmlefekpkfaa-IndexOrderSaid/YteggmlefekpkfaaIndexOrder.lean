/-
  Proved: whatever index, key and versions IndexOrder is called with, it returns true and leaves what it was given as it was. No condition.
-/
import Derived.Test.YteggmlefekpkfaaEBox
namespace Go.Proofs.Yteggmlefekpkfaa.indexOrder
open Go.ChangeShapes Go.WideShapes Go.ChangeAt Go.RowKit
open Go.ChangeMaps (open_string shut_string)
set_option linter.unusedVariables false
set_option linter.unusedSimpArgs false

set_option maxHeartbeats 4000000 in
set_option maxRecDepth 100000 in
theorem walk_no (L : List Ent) (k : ByteArray) (M : List Ver) (v : Value) (key : ByteArray) (vc : Value) (w : World) (n : Nat) (hn : n = 1 ∨ n = 6) (hP : PutI L k M [] n)
    (hlen : L.length ≤ 61) (htiny : ∀ e ∈ L, Tiny e) (hokL : ∀ e ∈ L, ∀ x ∈ e.L, okV x) (hks : k.size ≤ 80) (hMl : M.length ≤ 21) (hMo : ∀ x ∈ M, okV x) (hMd : ∀ x ∈ M, x.data.size ≤ 2001)
    (FW : Hid (∀ d, Q w d → Calls Try.prog 9 #[v] d fun e w' => ∃ v', e = .returned v' ∧ Ents w' w'.heap.size v' L ∧ Q d w'))
    (FK : Hid (∀ d, Calls Try.prog 10 #[.string key] d fun e w' => e = .returned (.string k) ∧ Q d w'))
    (FC : Hid (∀ d, Q w d → Calls Try.prog 11 #[vc] d fun e w' => ∃ v', e = .returned v' ∧ Vers w' w'.heap.size v' M ∧ Q d w')) :
    Calls Try.prog 7 #[v, .string key, vc] w fun e w' => e = .returned (.bool true) ∧ Q w w' := by
  have hs := tiny_small (by omega) htiny
  have PU := putE_hid hP hs (by omega) (by omega)
  clear hP hs htiny hokL hMo hMd
  rcases hn with rfl | rfl
  · go_enter Try.func7, Try.ntmps7
    go_wp2_with fail
    refine (FW.out _ (Q.refl _)).mono ?_
    rintro e w1 ⟨v1, rfl, e1, q1⟩
    have t1 := Lib.hid e1
    clear e1
    go_wp2_with fail
    refine (FK.out _).mono ?_
    rintro e w2 ⟨rfl, q2⟩
    go_wp2_with fail
    refine (FC.out _ (((Q.refl _).trans q1).trans q2)).mono ?_
    rintro e w3 ⟨v3, rfl, e3, q3⟩
    have t3 := Lib.hid e3
    clear e3
    go_wp2_with fail
    refine (PU.out _ _ _ (t1.out.on (((Q.refl _).trans q2).trans q3)) (t3.out.on (Q.refl _))).mono ?_
    rintro e w4 ⟨v4, rfl, e4, q4⟩
    clear e4
    go_wp2_with fail
    refine (awake_any _).mono ?_
    rintro e w5 ⟨rfl, q5⟩
    clear FW FK FC PU t1 t3
    go_wp2
    go_ret
    exact ⟨rfl, ((((((Q.refl _).trans q1).trans q2).trans q3).trans q4).trans q5)⟩
  · go_enter Try.func7, Try.ntmps7
    go_wp2_with fail
    refine (FW.out _ (Q.refl _)).mono ?_
    rintro e w1 ⟨v1, rfl, e1, q1⟩
    have t1 := Lib.hid e1
    clear e1
    go_wp2_with fail
    refine (FK.out _).mono ?_
    rintro e w2 ⟨rfl, q2⟩
    go_wp2_with fail
    refine (FC.out _ (((Q.refl _).trans q1).trans q2)).mono ?_
    rintro e w3 ⟨v3, rfl, e3, q3⟩
    have t3 := Lib.hid e3
    clear e3
    go_wp2_with fail
    refine (PU.out _ _ _ (t1.out.on (((Q.refl _).trans q2).trans q3)) (t3.out.on (Q.refl _))).mono ?_
    rintro e w4 ⟨v4, rfl, e4, q4⟩
    clear e4
    go_wp2_with fail
    refine (awake_any _).mono ?_
    rintro e w5 ⟨rfl, q5⟩
    clear FW FK FC PU t1 t3
    go_wp2
    go_ret
    exact ⟨rfl, ((((((Q.refl _).trans q1).trans q2).trans q3).trans q4).trans q5)⟩
set_option maxHeartbeats 4000000 in
set_option maxRecDepth 100000 in
theorem walk_nil (L : List Ent) (k : ByteArray) (M : List Ver) (v : Value) (key : ByteArray) (vc : Value) (w : World) (P : List Ent) (hP : PutI L k M P 0) (hM0 : M.length = 0)
    (hlen : L.length ≤ 61) (htiny : ∀ e ∈ L, Tiny e) (hokL : ∀ e ∈ L, ∀ x ∈ e.L, okV x) (hks : k.size ≤ 80) (hMl : M.length ≤ 21) (hMo : ∀ x ∈ M, okV x) (hMd : ∀ x ∈ M, x.data.size ≤ 2001)
    (FW : Hid (∀ d, Q w d → Calls Try.prog 9 #[v] d fun e w' => ∃ v', e = .returned v' ∧ Ents w' w'.heap.size v' L ∧ Q d w'))
    (FK : Hid (∀ d, Calls Try.prog 10 #[.string key] d fun e w' => e = .returned (.string k) ∧ Q d w'))
    (FC : Hid (∀ d, Q w d → Calls Try.prog 11 #[vc] d fun e w' => ∃ v', e = .returned v' ∧ Vers w' w'.heap.size v' M ∧ Q d w')) :
    Calls Try.prog 7 #[v, .string key, vc] w fun e w' => e = .returned (.bool true) ∧ Q w w' := by
  have hs := tiny_small (by omega) htiny
  have PU := putE_hid hP hs (by omega) (by omega)
  clear hP hs htiny hokL hMo hMd
  go_enter Try.func7, Try.ntmps7
  go_wp2_with fail
  refine (FW.out _ (Q.refl _)).mono ?_
  rintro e w1 ⟨v1, rfl, e1, q1⟩
  have t1 := Lib.hid e1
  clear e1
  go_wp2_with fail
  refine (FK.out _).mono ?_
  rintro e w2 ⟨rfl, q2⟩
  go_wp2_with fail
  refine (FC.out _ (((Q.refl _).trans q1).trans q2)).mono ?_
  rintro e w3 ⟨v3, rfl, e3, q3⟩
  have t3 := Lib.hid e3
  clear e3
  obtain ⟨Ac, cc, rfl⟩ := t3.out.form
  rw [hM0] at t3
  rw [hM0]
  go_wp2_with fail
  refine (PU.out _ _ _ (t1.out.on (((Q.refl _).trans q2).trans q3)) (t3.out.on (Q.refl _))).mono ?_
  rintro e w4 ⟨v4, rfl, e4, q4⟩
  clear e4 hM0
  go_wp2_with fail
  refine (awake_any _).mono ?_
  rintro e w5 ⟨rfl, q5⟩
  clear FW FK FC PU t1 t3
  go_wp2
  go_ret
  exact ⟨rfl, ((((((Q.refl _).trans q1).trans q2).trans q3).trans q4).trans q5)⟩
set_option maxHeartbeats 4000000 in
set_option maxRecDepth 100000 in
theorem walk_yes (L : List Ent) (k : ByteArray) (M : List Ver) (v : Value) (key : ByteArray) (vc : Value) (w : World) (P : List Ent) (hP : PutI L k M P 0) (hPe : P = putE L k M) (hr : Rise P) (hM0 : 0 < M.length)
    (hlen : L.length ≤ 61) (htiny : ∀ e ∈ L, Tiny e) (hokL : ∀ e ∈ L, ∀ x ∈ e.L, okV x) (hks : k.size ≤ 80) (hMl : M.length ≤ 21) (hMo : ∀ x ∈ M, okV x) (hMd : ∀ x ∈ M, x.data.size ≤ 2001)
    (FW : Hid (∀ d, Q w d → Calls Try.prog 9 #[v] d fun e w' => ∃ v', e = .returned v' ∧ Ents w' w'.heap.size v' L ∧ Q d w'))
    (FK : Hid (∀ d, Calls Try.prog 10 #[.string key] d fun e w' => e = .returned (.string k) ∧ Q d w'))
    (FC : Hid (∀ d, Q w d → Calls Try.prog 11 #[vc] d fun e w' => ∃ v', e = .returned v' ∧ Vers w' w'.heap.size v' M ∧ Q d w')) :
    Calls Try.prog 7 #[v, .string key, vc] w fun e w' => e = .returned (.bool true) ∧ Q w w' := by
  have hs := tiny_small (by omega) htiny
  have hPl := putI_len hP
  have PU := putE_hid hP hs (by omega) (by omega)
  have AL := at_hid L k (by omega)
  have AP := at_hid P k (by omega)
  rw [show atE P k = atE L k by rw [hPe, atE_put]] at AP
  have AI : Hid (∀ i (h : i < P.length) b u, Ents b b.heap.size u P → Calls Try.prog 19 #[u, .string P[i].key] b fun e w' => e = .returned (.int .i64 (i : Nat)) ∧ Q b w') := Lib.hid (fun i h b u hu => by
    have := (at_hid P P[i].key (by omega)).out b u hu
    rw [atE_own hr h] at this
    exact this)
  obtain ⟨F, hFF, hF, hFe⟩ : ∃ F, F = atE L k ∧ ∃ h : F < P.length, P[F] = ⟨k, M⟩ := by
    subst hPe
    obtain ⟨h, e⟩ := put_at L k (m := M) (List.length_pos_iff.1 hM0)
    exact ⟨_, rfl, h, e⟩
  have SV := sameV_yes M (by omega)
  rw [← hFF] at AL AP
  have HM := Lib.hid hM0
  clear hP hs htiny hokL hMo hMd hPe hr hFF
  go_enter Try.func7, Try.ntmps7
  go_wp2_with fail
  refine (FW.out _ (Q.refl _)).mono ?_
  rintro e w1 ⟨v1, rfl, e1, q1⟩
  have t1 := Lib.hid e1
  clear e1
  go_wp2_with fail
  refine (FK.out _).mono ?_
  rintro e w2 ⟨rfl, q2⟩
  go_wp2_with fail
  refine (FC.out _ (((Q.refl _).trans q1).trans q2)).mono ?_
  rintro e w3 ⟨v3, rfl, e3, q3⟩
  have t3 := Lib.hid e3
  clear e3
  obtain ⟨Ac, cc, rfl⟩ := t3.out.form
  obtain ⟨N, hN⟩ : ∃ N, M.length = N := ⟨_, rfl⟩
  have HN := Lib.hid hN
  rw [hN] at t3 hMl
  have hM1 : ¬ (N : Int) = 0 := by omega
  rw [hN]
  clear hN hM0
  go_wp2_with fail
  refine (PU.out _ _ _ (t1.out.on (((Q.refl _).trans q2).trans q3)) (t3.out.on (Q.refl _))).mono ?_
  rintro e w4 ⟨v4, rfl, e4, q4⟩
  have t4 := Lib.hid e4
  clear e4
  obtain ⟨a, cP, hv, -, A9, c9, hvs, hat⟩ := t4.out.pick F hF
  subst hv
  rw [hFe] at hvs
  simp only [hFe] at hat
  rw [show (⟨k, M⟩ : Ent).L.length = N from HN.out] at hat hvs
  have hvs : Hid (Vers w4 w4.heap.size (.slice A9 N c9) M) := Lib.hid hvs
  have HAT := Lib.hid hat
  clear hat hFe
  obtain ⟨K, hK⟩ : ∃ K, P.length = K := ⟨_, rfl⟩
  have HK := Lib.hid hK
  have hK60 : K ≤ 60 := by omega
  have hFK : (F : Int) < (K : Int) := by omega
  have hF0 : decide ((F : Int) < 0) = false := decide_eq_false (by omega)
  have hF1 : decide (K ≤ F) = false := decide_eq_false (by omega)
  rw [hK] at t4
  rw [hK]
  clear hF hK hPl
  go_wp2_with fail
  refine (AL.out _ _ (t1.out.on ((((Q.refl _).trans q2).trans q3).trans q4))).mono ?_
  rintro e w5 ⟨rfl, q5⟩
  go_wp2_with fail
  refine (AP.out _ _ (t4.out.on ((Q.refl _).trans q5))).mono ?_
  rintro e w6 ⟨rfl, q6⟩
  obtain ⟨d0, d1⟩ := HAT.out _ (((Q.refl _).trans q5).trans q6)
  have d0 : w6.cell? (a.add (F * 2)) = some (Value.string k) := d0
  go_wp2_with fail
  refine (SV.out _ _ _ (hvs.out.on (((Q.refl _).trans q5).trans q6)) (t3.out.on ((((Q.refl _).trans q4).trans q5).trans q6))).mono ?_
  rintro e w7 ⟨rfl, q7⟩
  have qs : Q w w7 := ((((((((Q.refl _).trans q1).trans q2).trans q3).trans q4).trans q5).trans q6).trans q7)
  have tP : Hid (Ents w7 w7.heap.size (.slice (some a) K cP) P) := Lib.hid (t4.out.on ((((Q.refl _).trans q5).trans q6).trans q7))
  clear FW FK FC PU t1 t3 t4 hvs HAT AL AP SV d0 d1 q1 q2 q3 q4 q5 q6 q7
  go_wp2_with fail
  go_loopw [10] (fun I wr => ∃ i : Nat, i ≤ K ∧ I = .int .i64 i ∧ Q w7 wr) (fun I _ => K - (intOf I).toNat)
  case atStart => exact ⟨0, Nat.zero_le _, rfl, Q.refl _⟩
  case round =>
    obtain ⟨i, hil, rfl, q⟩ := hrel
    by_cases hlt : i < K
    · have hlt' : i < P.length := by rw [HK.out]; exact hlt
      obtain ⟨a', c', hv, -, A8, c8, -, hat⟩ := tP.out.pick i hlt'
      injection hv with e1 e2 e3
      injection e1 with e1
      subst e1
      obtain ⟨d0, -⟩ := hat _ q
      have CI := AI.out i hlt' _ _ (tP.out.on q)
      obtain ⟨x, hx⟩ : ∃ x, x = P[i].key := ⟨_, rfl⟩
      rw [← hx] at d0 CI
      have hi1 : (i : Int) < (K : Int) := by omega
      clear hx hat hlt' e2 e3
      have CH := Lib.hid CI
      clear CI
      go_wp2_with fail
      refine (CH.out).mono ?_
      rintro e w8 ⟨rfl, q8⟩
      have q9 := q.trans q8
      clear CH d0
      go_wp2
      go_roundw
      case rel => exact ⟨i + 1, by omega, by go_num, q9⟩
      case measure => simp [intOf]; omega
    · have hi1 : ¬ (i : Int) < (K : Int) := by omega
      go_wp2_with fail
      refine (awake_any _).mono ?_
      rintro e w8 ⟨rfl, q8⟩
      have q9 := (qs.trans q).trans q8
      go_wp2
      go_ret
      exact ⟨rfl, q9⟩
theorem walk (l : List Ent) (v : Value) (key : ByteArray) (c : List Ver) (vc : Value) (w : World) (t0 : Ents w w.heap.size v l) (z0 : l.length ≤ maxLen) (wk : key.size ≤ maxLen) (t2 : Vers w w.heap.size vc c) (z2 : c.length ≤ maxLen) :
    Calls Try.prog 7 #[v, .string key, vc] w fun e w' => e = .returned (.bool true) ∧ Q w w' := by
  obtain ⟨L, hL, hlen, hfew, htiny, FW⟩ := few_allE l v w z0 t0
  obtain ⟨M, hM, hMl, hMo, hMd, FC⟩ := few_allV c vc w z2 t2
  obtain ⟨k, hk, hks, FK⟩ := few_key key wk
  have hokL : ∀ e ∈ L, ∀ x ∈ e.L, okV x := by
    intro e he x hx
    rw [hL] at he
    obtain ⟨y, hy, rfl⟩ := fewE_mem he
    exact fewV_okV (t0.okVs y hy) x hx
  obtain ⟨P, n, hP⟩ := putI_ex L k M
  rcases putI_k hP with ⟨rfl, h1, h2, h3, h4, h5⟩ | ⟨-, rfl, hn⟩
  · by_cases hM0 : M.length = 0
    · exact walk_nil L k M v key vc w P hP hM0 hlen htiny hokL hks hMl hMo hMd FW FK FC
    · exact walk_yes L k M v key vc w P hP h4 (by rw [h4]; exact rise_put (okI_rise h1) k M) (by omega) hlen htiny hokL hks hMl hMo hMd FW FK FC
  · exact walk_no L k M v key vc w n hn hP hlen htiny hokL hks hMl hMo hMd FW FK FC

set_option maxRecDepth 100000 in
theorem lifted (os : Os) (started : os.Started) (H : Type) (enc : TypeId × Value → H) :
    ReturnsInHanded {} Try.checked os 7 .any (Rows.indexOrderSpec.pre6 enc Try.prog Try.f7 Rows.indexOrderRow.domain false) (Rows.indexOrderSpec.post enc Try.prog Try.f7 false true false false) := by
  refine returnsInHanded_of_change (C := Try.checked) own started (by kernel_rfl) Try.func7
    (ChangeSpec.witness6 (enc := enc) (C := Try.checked) false ⟨#[], #[.slice none 0 0, .string ByteArray.empty, .slice none 0 0], []⟩ 8 (by kernel_rfl) (by kernel_rfl) (by kernel_rfl) (by kernel_rfl)) ?_
  intro W base args ds gs before hval0 hW hcnd _
  have hval : ∀ (j : Nat) t v, Try.f7.params[j]? = some t → args[j]? = some v → Value.okWide Try.prog W .any base t v := hval0
  have hW' := hW
  obtain ⟨p, q, hA0, hV, rfl, hfz, hnd⟩ := hW
  have hA : DataW.TrodAll enc Try.prog W 0 (fun _ => true) true Try.f7.params.toList args.toList ds p := hA0
  rw [Try.params7] at hA hval
  obtain ⟨v0, vs0, d0, ds0, p0, q0, hargs, rfl, rfl, h0, r0⟩ := trodAll_cons hA
  obtain ⟨v1, vs1, d1, ds1, p1, q1, rfl, rfl, rfl, h1, r1⟩ := trodAll_cons r0
  obtain ⟨v2, vs2, d2, ds2, p2, q2, rfl, rfl, rfl, h2, r2⟩ := trodAll_cons r1
  obtain ⟨rfl, rfl, rfl⟩ := trodAll_nil r2
  obtain rfl : args = #[v0, v1, v2] := by cases args; simp_all
  obtain ⟨rfl, rfl⟩ := trodVars_none hV
  clear hA0 hval0
  simp only [List.append_nil] at hW'
  have hlt : ∀ x ∈ p0 ++ p1 ++ p2, x.block < W.heap.size := fun x hx => by simpa using hW'.lt x (by simpa using hx)
  obtain ⟨l0, t0, z0⟩ := open_ents (hval 0 22 v0 rfl rfl) h0
  obtain ⟨a1, rfl, -, -, w1⟩ := open_string Try.underlying9 (hval 1 9 v1 rfl rfl) h1
  obtain ⟨l2, t2, z2⟩ := open_vers (hval 2 23 v2 rfl rfl) h2
  refine (walk l0 v0 a1 l2 v2 W t0 z0 w1 t2 z2).mono fun e W' ⟨he, bel⟩ => ?_
  subst he
  refine ⟨_, rfl, _, _, _, [], _, [], hW', trodAll_mk1 (shut_bool Try.underlying4 _), (trodAll_cons_mk (Below.trod laid (by kernel_rfl) (of_decide_eq_true (by kernel_rfl)) h0 bel (fun x hx => hlt x (by simp [hx]))) (trodAll_cons_mk (Below.trod laid (by kernel_rfl) (of_decide_eq_true (by kernel_rfl)) h1 bel (fun x hx => hlt x (by simp [hx]))) (trodAll_cons_mk (Below.trod laid (by kernel_rfl) (of_decide_eq_true (by kernel_rfl)) h2 bel (fun x hx => hlt x (by simp [hx]))) trodAll_mk0))), rfl, Below.frame bel _, fun h => by cases h⟩

theorem over : Rows.indexOrderRow.holds Try.pinned (OpenSpec.ofChange Rows.indexOrderSpec) :=
  OpenClaim.holds_of_wide 7 Try.f7 rfl rfl rfl rfl rfl rfl rfl ⟨rfl, rfl, rfl, rfl, rfl⟩ rfl rfl rfl rfl rfl (by kernel_rfl) Try.func7 (by kernel_rfl)
    (of_decide_eq_true (by kernel_rfl)) (by unfold Func.isWrapper; first | (rw [if_pos (by decide +kernel)]; kernel_rfl) | (rw [if_neg (by decide +kernel)]; exact ⟨rfl, rfl⟩))
    (fun os started H enc _ => lifted os started H enc)

theorem proved : Rows.IndexOrderSaid := over
#print axioms proved
end Go.Proofs.Yteggmlefekpkfaa.indexOrder
