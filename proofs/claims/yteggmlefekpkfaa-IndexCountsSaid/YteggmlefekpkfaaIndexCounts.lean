/-
  Proved: whatever index, key and versions IndexCounts is called with, it returns true and leaves what it was given as it was. No condition.
-/
import Derived.Test.YteggmlefekpkfaaEBox
namespace Go.Proofs.Yteggmlefekpkfaa.indexCounts
open Go.ChangeShapes Go.WideShapes Go.ChangeAt Go.RowKit
open Go.ChangeMaps (open_string shut_string)
set_option linter.unusedVariables false
set_option linter.unusedSimpArgs false

set_option maxHeartbeats 4000000 in
set_option maxRecDepth 100000 in
theorem walk_no (L : List Ent) (k : ByteArray) (M : List Ver) (v : Value) (key : ByteArray) (vc : Value) (w : World) (n : Nat) (hn : n = 1 ∨ n = 6) (hP : PutI L k M [] n)
    (hlen : L.length ≤ 61) (htiny : ∀ e ∈ L, Tiny e) (hokL : ∀ e ∈ L, ∀ x ∈ e.L, okV x) (hks : k.size ≤ 80) (hMl : M.length ≤ 21) (hMo : ∀ x ∈ M, okV x) (hMd : ∀ x ∈ M, x.data.size ≤ 2001)
    (FW : Hid (∀ d, Q w d → Calls Try.prog 9 #[v] d fun e w' => ∃ v', e = .returned v' ∧ Ents w' w'.heap.size v' L ∧ Q d w'))
    (FK : Hid (∀ d, Calls Try.prog 10 #[.string key] d fun e w' => e = .returned (.string k) ∧ Q d w'))
    (FC : Hid (∀ d, Q w d → Calls Try.prog 11 #[vc] d fun e w' => ∃ v', e = .returned v' ∧ Vers w' w'.heap.size v' M ∧ Q d w')) :
    Calls Try.prog 8 #[v, .string key, vc] w fun e w' => e = .returned (.bool true) ∧ Q w w' := by
  have hs := tiny_small (by omega) htiny
  have PU := putE_hid hP hs (by omega) (by omega)
  clear hP hs htiny hokL hMo hMd
  rcases hn with rfl | rfl
  · go_enter Try.func8, Try.ntmps8
    go_wp2_with fail
    refine (FW.out _ (Q.refl _)).mono ?_
    rintro e w1 ⟨v1, rfl, e1, q1⟩
    have t1 := Lib.hid e1
    clear e1
    go_wp2_with fail
    refine (FK.out _).mono ?_
    rintro e w2 ⟨rfl, q2⟩
    go_wp2_with fail
    refine (FC.out _ (((Q.refl _).trans q1).trans q2)).mono ?_
    rintro e w3 ⟨v3, rfl, e3, q3⟩
    have t3 := Lib.hid e3
    clear e3
    go_wp2_with fail
    refine (PU.out _ _ _ (t1.out.on (((Q.refl _).trans q2).trans q3)) (t3.out.on (Q.refl _))).mono ?_
    rintro e w4 ⟨v4, rfl, e4, q4⟩
    clear e4
    go_wp2_with fail
    refine (awake_any _).mono ?_
    rintro e w5 ⟨rfl, q5⟩
    clear FW FK FC PU t1 t3
    go_wp2
    go_ret
    exact ⟨rfl, ((((((Q.refl _).trans q1).trans q2).trans q3).trans q4).trans q5)⟩
  · go_enter Try.func8, Try.ntmps8
    go_wp2_with fail
    refine (FW.out _ (Q.refl _)).mono ?_
    rintro e w1 ⟨v1, rfl, e1, q1⟩
    have t1 := Lib.hid e1
    clear e1
    go_wp2_with fail
    refine (FK.out _).mono ?_
    rintro e w2 ⟨rfl, q2⟩
    go_wp2_with fail
    refine (FC.out _ (((Q.refl _).trans q1).trans q2)).mono ?_
    rintro e w3 ⟨v3, rfl, e3, q3⟩
    have t3 := Lib.hid e3
    clear e3
    go_wp2_with fail
    refine (PU.out _ _ _ (t1.out.on (((Q.refl _).trans q2).trans q3)) (t3.out.on (Q.refl _))).mono ?_
    rintro e w4 ⟨v4, rfl, e4, q4⟩
    clear e4
    go_wp2_with fail
    refine (awake_any _).mono ?_
    rintro e w5 ⟨rfl, q5⟩
    clear FW FK FC PU t1 t3
    go_wp2
    go_ret
    exact ⟨rfl, ((((((Q.refl _).trans q1).trans q2).trans q3).trans q4).trans q5)⟩
set_option maxHeartbeats 4000000 in
set_option maxRecDepth 100000 in
theorem walk_yes (L : List Ent) (k : ByteArray) (M : List Ver) (v : Value) (key : ByteArray) (vc : Value) (w : World) (P : List Ent) (hP : PutI L k M P 0) (hPe : P = putE L k M) (hI : okI L)
    (hlen : L.length ≤ 61) (htiny : ∀ e ∈ L, Tiny e) (hokL : ∀ e ∈ L, ∀ x ∈ e.L, okV x) (hks : k.size ≤ 80) (hMl : M.length ≤ 21) (hMo : ∀ x ∈ M, okV x) (hMd : ∀ x ∈ M, x.data.size ≤ 2001)
    (FW : Hid (∀ d, Q w d → Calls Try.prog 9 #[v] d fun e w' => ∃ v', e = .returned v' ∧ Ents w' w'.heap.size v' L ∧ Q d w'))
    (FK : Hid (∀ d, Calls Try.prog 10 #[.string key] d fun e w' => e = .returned (.string k) ∧ Q d w'))
    (FC : Hid (∀ d, Q w d → Calls Try.prog 11 #[vc] d fun e w' => ∃ v', e = .returned v' ∧ Vers w' w'.heap.size v' M ∧ Q d w')) :
    Calls Try.prog 8 #[v, .string key, vc] w fun e w' => e = .returned (.bool true) ∧ Q w w' := by
  have hs := tiny_small (by omega) htiny
  have hPl := putI_len hP
  have hPs := tiny_small (by omega) (putI_tiny hP htiny ⟨hks, hMl, hMd⟩)
  have PU := putE_hid hP hs (by omega) (by omega)
  have CL : Hid (∀ b u, Ents b b.heap.size u L → Calls Try.prog 18 #[u] b fun e w' => e = .returned (.tuple #[.int .i64 (manyE L : Nat), .int .i64 (octE L : Nat)]) ∧ Q b w') := Lib.hid (fun b u hu => count_any L u b hs hu)
  have CP : Hid (∀ b u, Ents b b.heap.size u P → Calls Try.prog 18 #[u] b fun e w' => e = .returned (.tuple #[.int .i64 (manyE P : Nat), .int .i64 (octE P : Nat)]) ∧ Q b w') := Lib.hid (fun b u hu => count_any P u b hPs hu)
  have GT := getE_hid L k hs hokL
  obtain ⟨O, hO⟩ : ∃ O, O = getE L k := ⟨_, rfl⟩
  obtain ⟨hOl, hOd⟩ := getE_small k htiny
  have f1 := many_put hI k M
  have f2 := oct_put hI k M
  rw [← hPe] at f1 f2
  rw [← hO] at GT hOl hOd f1 f2
  have b1 : manyE L ≤ 1000000 := by have := manyE_le hs L.length; rwa [List.take_length] at this
  have b2 : octE L ≤ 100000000000 := by have := octE_le hs L.length; rwa [List.take_length] at this
  have b3 : manyE P ≤ 1000000 := by have := manyE_le hPs P.length; rwa [List.take_length] at this
  have b4 : octE P ≤ 100000000000 := by have := octE_le hPs P.length; rwa [List.take_length] at this
  have b5 : ∀ i, octV (M.take i) ≤ 100000000 := fun i => octV_le (by omega) (fun x hx => by have := hMd x hx; omega) i
  have b6 : ∀ i, octV (O.take i) ≤ 100000000 := fun i => octV_le (by omega) (fun x hx => by have := hOd x hx; omega) i
  have b7 := b5 M.length
  have b8 := b6 O.length
  rw [List.take_length] at b7 b8
  have B5 := Lib.hid b5
  have B6 := Lib.hid b6
  have HOd := Lib.hid hOd
  have HMd := Lib.hid hMd
  obtain ⟨mL, hmL⟩ : ∃ n, n = manyE L := ⟨_, rfl⟩
  obtain ⟨mP, hmP⟩ : ∃ n, n = manyE P := ⟨_, rfl⟩
  obtain ⟨oL, hoL⟩ : ∃ n, n = octE L := ⟨_, rfl⟩
  obtain ⟨oP, hoP⟩ : ∃ n, n = octE P := ⟨_, rfl⟩
  obtain ⟨vO, hvO⟩ : ∃ n, n = octV O := ⟨_, rfl⟩
  obtain ⟨vM, hvM⟩ : ∃ n, n = octV M := ⟨_, rfl⟩
  obtain ⟨N, hN⟩ : ∃ n, n = M.length := ⟨_, rfl⟩
  obtain ⟨J, hJ⟩ : ∃ n, n = O.length := ⟨_, rfl⟩
  rw [← hmL, ← hoL] at CL
  rw [← hmP, ← hoP] at CP
  rw [← hmL, ← hmP, ← hN, ← hJ] at f1
  rw [← hoL, ← hoP, ← hvO, ← hvM] at f2
  rw [← hmL] at b1
  rw [← hoL] at b2
  rw [← hmP] at b3
  rw [← hoP] at b4
  rw [← hvM] at b7
  rw [← hvO] at b8
  rw [← hN] at hMl
  rw [← hJ] at hOl
  have HvO := Lib.hid hvO
  have HvM := Lib.hid hvM
  have HN := Lib.hid hN
  have HJ := Lib.hid hJ
  have g1 : IntKind.i64.wrap ((mP : Int) - (mL : Int)) = (mP : Int) - (mL : Int) := by rw [IntKind.wrap_i64]; omega
  have g2 : IntKind.i64.wrap ((N : Int) - (J : Int)) = (mP : Int) - (mL : Int) := by rw [IntKind.wrap_i64]; omega
  have g3 : IntKind.i64.wrap ((oP : Int) - (oL : Int)) = (oP : Int) - (oL : Int) := by rw [IntKind.wrap_i64]; omega
  have g4 : IntKind.i64.wrap ((vM : Int) - (vO : Int)) = (oP : Int) - (oL : Int) := by rw [IntKind.wrap_i64]; omega
  have g1' : wrap64 ((mP : Int) - (mL : Int)) = (mP : Int) - (mL : Int) := by unfold wrap64; omega
  have g2' : wrap64 ((N : Int) - (J : Int)) = (mP : Int) - (mL : Int) := by unfold wrap64; omega
  have g3' : wrap64 ((oP : Int) - (oL : Int)) = (oP : Int) - (oL : Int) := by unfold wrap64; omega
  have g4' : wrap64 ((vM : Int) - (vO : Int)) = (oP : Int) - (oL : Int) := by unfold wrap64; omega
  clear hP hs hPs hPl htiny hokL hMo hMd hOd hPe hI hO f1 f2 b1 b2 b3 b4 b5 b6 hmL hmP hoL hoP hvO hvM hN hJ
  go_enter Try.func8, Try.ntmps8
  go_wp2_with fail
  refine (FW.out _ (Q.refl _)).mono ?_
  rintro e w1 ⟨v1, rfl, e1, q1⟩
  have t1 := Lib.hid e1
  clear e1
  go_wp2_with fail
  refine (FK.out _).mono ?_
  rintro e w2 ⟨rfl, q2⟩
  go_wp2_with fail
  refine (FC.out _ (((Q.refl _).trans q1).trans q2)).mono ?_
  rintro e w3 ⟨v3, rfl, e3, q3⟩
  have t3 := Lib.hid e3
  clear e3
  obtain ⟨Ac, cc, rfl⟩ := t3.out.form
  rw [← HN.out] at t3
  rw [← HN.out]
  go_wp2_with fail
  refine (PU.out _ _ _ (t1.out.on (((Q.refl _).trans q2).trans q3)) (t3.out.on (Q.refl _))).mono ?_
  rintro e w4 ⟨v4, rfl, e4, q4⟩
  have t4 := Lib.hid e4
  clear e4
  go_wp2_with fail
  refine (CL.out _ _ (t1.out.on ((((Q.refl _).trans q2).trans q3).trans q4))).mono ?_
  rintro e w5 ⟨rfl, q5⟩
  go_wp2_with fail
  refine (CP.out _ _ (t4.out.on ((Q.refl _).trans q5))).mono ?_
  rintro e w6 ⟨rfl, q6⟩
  go_wp2_with fail
  refine (GT.out _ _ (t1.out.on ((((((Q.refl _).trans q2).trans q3).trans q4).trans q5).trans q6))).mono ?_
  rintro e w7 ⟨v7, rfl, e7, q7⟩
  have t7 := Lib.hid e7
  clear e7
  obtain ⟨Ao, co, rfl⟩ := t7.out.form
  rw [← HJ.out] at t7
  rw [← HJ.out]
  have qs : Q w w7 := ((((((((Q.refl _).trans q1).trans q2).trans q3).trans q4).trans q5).trans q6).trans q7)
  have tM : Hid (Vers w7 w7.heap.size (.slice Ac N cc) M) := Lib.hid (t3.out.on (((((Q.refl _).trans q4).trans q5).trans q6).trans q7))
  clear FW FK FC PU t1 t3 t4 CL CP GT q1 q2 q3 q4 q5 q6 q7
  go_wp2_with fail
  go_loopw [13, 16] (fun S I wr => ∃ i n : Nat, i ≤ J ∧ I = .int .i64 i ∧ S = .int .i64 n ∧ Hid (n = octV (O.take i)) ∧ Q w7 wr) (fun _ I _ => J - (intOf I).toNat)
  case atStart => exact ⟨0, 0, Nat.zero_le _, rfl, rfl, Lib.hid (by simp [octV]), Q.refl _⟩
  case round =>
    obtain ⟨i, n, hil, rfl, rfl, HI, q⟩ := hrel
    by_cases hlt : i < J
    · have hlt' : i < O.length := by rw [← HJ.out]; exact hlt
      obtain ⟨a, rfl, -, hat⟩ := t7.out.pick i hlt'
      obtain ⟨-, c1, -, -⟩ := hat _ q
      have hx2 := HOd.out _ (List.getElem_mem hlt')
      have hn := B6.out i
      rw [← HI.out] at hn
      have HI2 : Hid (n + O[i].data.size = octV (O.take (i + 1))) := Lib.hid (by rw [octV_step hlt', HI.out])
      obtain ⟨x, hx⟩ : ∃ x, x = O[i] := ⟨_, rfl⟩
      rw [← hx] at c1 hx2 HI2
      have hi1 : (i : Int) < (J : Int) := by omega
      clear hx hat hlt'
      go_wp2
      go_roundw
      case rel => exact ⟨i + 1, n + x.data.size, by omega, by go_num, by go_num, HI2, q⟩
      case measure => simp [intOf]; omega
    · have hi1 : ¬ (i : Int) < (J : Int) := by omega
      have e : n = vO := by rw [HI.out, HvO.out, List.take_of_length_le (by rw [← HJ.out]; omega)]
      subst e
      have q0 := q
      clear q HI
      go_wp2_with fail
      go_loopw [14, 17] (fun S I wr => ∃ i m : Nat, i ≤ N ∧ I = .int .i64 i ∧ S = .int .i64 m ∧ Hid (m = octV (M.take i)) ∧ Q w7 wr) (fun _ I _ => N - (intOf I).toNat)
      case atStart => exact ⟨0, 0, Nat.zero_le _, rfl, rfl, Lib.hid (by simp [octV]), q0⟩
      case round =>
        clear q0
        obtain ⟨j, m, hjl, rfl, rfl, HI, q⟩ := hrel
        by_cases hlt2 : j < N
        · have hlt' : j < M.length := by rw [← HN.out]; exact hlt2
          obtain ⟨a, rfl, -, hat⟩ := tM.out.pick j hlt'
          obtain ⟨-, c1, -, -⟩ := hat _ q
          have hx2 := HMd.out _ (List.getElem_mem hlt')
          have hn := B5.out j
          rw [← HI.out] at hn
          have HI2 : Hid (m + M[j].data.size = octV (M.take (j + 1))) := Lib.hid (by rw [octV_step hlt', HI.out])
          obtain ⟨x, hx⟩ : ∃ x, x = M[j] := ⟨_, rfl⟩
          rw [← hx] at c1 hx2 HI2
          have hi2 : (j : Int) < (N : Int) := by omega
          clear hx hat hlt'
          go_wp2
          go_roundw
          case rel => exact ⟨j + 1, m + x.data.size, by omega, by go_num, by go_num, HI2, q⟩
          case measure => simp [intOf]; omega
        · have hi2 : ¬ (j : Int) < (N : Int) := by omega
          have e : m = vM := by rw [HI.out, HvM.out, List.take_of_length_le (by rw [← HN.out]; omega)]
          subst e
          go_wp2_with fail
          refine (awake_any _).mono ?_
          rintro e w8 ⟨rfl, q8⟩
          have q9 := (qs.trans q).trans q8
          go_wp2
          go_ret
          exact ⟨rfl, q9⟩
theorem walk (l : List Ent) (v : Value) (key : ByteArray) (c : List Ver) (vc : Value) (w : World) (t0 : Ents w w.heap.size v l) (z0 : l.length ≤ maxLen) (wk : key.size ≤ maxLen) (t2 : Vers w w.heap.size vc c) (z2 : c.length ≤ maxLen) :
    Calls Try.prog 8 #[v, .string key, vc] w fun e w' => e = .returned (.bool true) ∧ Q w w' := by
  obtain ⟨L, hL, hlen, hfew, htiny, FW⟩ := few_allE l v w z0 t0
  obtain ⟨M, hM, hMl, hMo, hMd, FC⟩ := few_allV c vc w z2 t2
  obtain ⟨k, hk, hks, FK⟩ := few_key key wk
  have hokL : ∀ e ∈ L, ∀ x ∈ e.L, okV x := by
    intro e he x hx
    rw [hL] at he
    obtain ⟨y, hy, rfl⟩ := fewE_mem he
    exact fewV_okV (t0.okVs y hy) x hx
  obtain ⟨P, n, hP⟩ := putI_ex L k M
  rcases putI_k hP with ⟨rfl, h1, h2, h3, h4, h5⟩ | ⟨-, rfl, hn⟩
  · exact walk_yes L k M v key vc w P hP h4 h1 hlen htiny hokL hks hMl hMo hMd FW FK FC
  · exact walk_no L k M v key vc w n hn hP hlen htiny hokL hks hMl hMo hMd FW FK FC

set_option maxRecDepth 100000 in
theorem lifted (os : Os) (started : os.Started) (H : Type) (enc : TypeId × Value → H) :
    ReturnsInHanded {} Try.checked os 8 .any (Rows.indexCountsSpec.pre6 enc Try.prog Try.f8 Rows.indexCountsRow.domain false) (Rows.indexCountsSpec.post enc Try.prog Try.f8 false true false false) := by
  refine returnsInHanded_of_change (C := Try.checked) own started (by kernel_rfl) Try.func8
    (ChangeSpec.witness6 (enc := enc) (C := Try.checked) false ⟨#[], #[.slice none 0 0, .string ByteArray.empty, .slice none 0 0], []⟩ 8 (by kernel_rfl) (by kernel_rfl) (by kernel_rfl) (by kernel_rfl)) ?_
  intro W base args ds gs before hval0 hW hcnd _
  have hval : ∀ (j : Nat) t v, Try.f8.params[j]? = some t → args[j]? = some v → Value.okWide Try.prog W .any base t v := hval0
  have hW' := hW
  obtain ⟨p, q, hA0, hV, rfl, hfz, hnd⟩ := hW
  have hA : DataW.TrodAll enc Try.prog W 0 (fun _ => true) true Try.f8.params.toList args.toList ds p := hA0
  rw [Try.params8] at hA hval
  obtain ⟨v0, vs0, d0, ds0, p0, q0, hargs, rfl, rfl, h0, r0⟩ := trodAll_cons hA
  obtain ⟨v1, vs1, d1, ds1, p1, q1, rfl, rfl, rfl, h1, r1⟩ := trodAll_cons r0
  obtain ⟨v2, vs2, d2, ds2, p2, q2, rfl, rfl, rfl, h2, r2⟩ := trodAll_cons r1
  obtain ⟨rfl, rfl, rfl⟩ := trodAll_nil r2
  obtain rfl : args = #[v0, v1, v2] := by cases args; simp_all
  obtain ⟨rfl, rfl⟩ := trodVars_none hV
  clear hA0 hval0
  simp only [List.append_nil] at hW'
  have hlt : ∀ x ∈ p0 ++ p1 ++ p2, x.block < W.heap.size := fun x hx => by simpa using hW'.lt x (by simpa using hx)
  obtain ⟨l0, t0, z0⟩ := open_ents (hval 0 22 v0 rfl rfl) h0
  obtain ⟨a1, rfl, -, -, w1⟩ := open_string Try.underlying9 (hval 1 9 v1 rfl rfl) h1
  obtain ⟨l2, t2, z2⟩ := open_vers (hval 2 23 v2 rfl rfl) h2
  refine (walk l0 v0 a1 l2 v2 W t0 z0 w1 t2 z2).mono fun e W' ⟨he, bel⟩ => ?_
  subst he
  refine ⟨_, rfl, _, _, _, [], _, [], hW', trodAll_mk1 (shut_bool Try.underlying4 _), (trodAll_cons_mk (Below.trod laid (by kernel_rfl) (of_decide_eq_true (by kernel_rfl)) h0 bel (fun x hx => hlt x (by simp [hx]))) (trodAll_cons_mk (Below.trod laid (by kernel_rfl) (of_decide_eq_true (by kernel_rfl)) h1 bel (fun x hx => hlt x (by simp [hx]))) (trodAll_cons_mk (Below.trod laid (by kernel_rfl) (of_decide_eq_true (by kernel_rfl)) h2 bel (fun x hx => hlt x (by simp [hx]))) trodAll_mk0))), rfl, Below.frame bel _, fun h => by cases h⟩

theorem over : Rows.indexCountsRow.holds Try.pinned (OpenSpec.ofChange Rows.indexCountsSpec) :=
  OpenClaim.holds_of_wide 8 Try.f8 rfl rfl rfl rfl rfl rfl rfl ⟨rfl, rfl, rfl, rfl, rfl⟩ rfl rfl rfl rfl rfl (by kernel_rfl) Try.func8 (by kernel_rfl)
    (of_decide_eq_true (by kernel_rfl)) (by unfold Func.isWrapper; first | (rw [if_pos (by decide +kernel)]; kernel_rfl) | (rw [if_neg (by decide +kernel)]; exact ⟨rfl, rfl⟩))
    (fun os started H enc _ => lifted os started H enc)

theorem proved : Rows.IndexCountsSaid := over
#print axioms proved
end Go.Proofs.Yteggmlefekpkfaa.indexCounts
