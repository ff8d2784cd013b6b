/-
  Proved: whatever is asked PagerKeys for, it returns true and leaves what it was given as it was. No condition.
-/
import Derived.Test.YtipipjpdlblifaaGCut
import Derived.Test.YtipipjpdlblifaaGRKeys
namespace Go.Proofs.Ytipipjpdlblifaa.pagerKeys
open Go.ChangeShapes Go.WideShapes Go.ChangeAt Go.RowKit
open Go.ChangeMaps (open_string shut_string)
set_option linter.unusedVariables false
set_option linter.unusedSimpArgs false

set_option maxHeartbeats 8000000 in
set_option maxRecDepth 100000 in
theorem walk (u : Value) (l : List Ent) (pp dd key : ByteArray) (id : Nat) (m : Int) (w : World) (t0 : Ents w w.heap.size u l) (z0 : l.length ≤ maxLen) (sp : pp.size ≤ maxLen) (sd : dd.size ≤ maxLen) (sk : key.size ≤ maxLen) (si : id < 18446744073709551616) (sm : -9223372036854775808 ≤ m) (sn : m ≤ 9223372036854775807) :
    Calls Try.prog 3 #[.agg #[u, .string pp, .string dd, .string key, .int .u64 (id : Nat), .int .i64 m]] w fun e w' => e = .returned (.bool true) ∧ Q w w' := by
  have hlen : (fewE l).length ≤ 61 := fewE_len l
  have hs : Small (fewE l) := tiny_small (by omega) (fewE_tiny l)
  have hks := fewS_size pp
  have hds := fewS_size dd
  have has := fewS_size key
  have CU := Lib.hid fun b (q : Q w b) => cut_ask l u pp dd key id m b z0 sp sd sk (t0.on q)
  obtain ⟨L, hL⟩ : ∃ L, L = fewE l := ⟨_, rfl⟩
  obtain ⟨k, hk⟩ : ∃ k, k = fewS pp := ⟨_, rfl⟩
  obtain ⟨d, hd⟩ : ∃ d, d = fewS dd := ⟨_, rfl⟩
  obtain ⟨a, ha⟩ : ∃ a, a = fewS key := ⟨_, rfl⟩
  rw [← hL] at hlen hs CU
  rw [← hk] at hks CU
  rw [← hd] at hds CU
  rw [← ha] at has CU
  clear hL hk hd ha
  have hL1 := hs.1
  obtain ⟨R, hR⟩ := chkI_ex L
  obtain ⟨N, kn, hN, TC⟩ := things_whole L k d R hR hs (by omega) (by omega)
  obtain ⟨P, kp, hP, KC⟩ := keys_whole L k d a m R hR hs (by omega) (by omega) (by omega)
  have AS0 := Lib.hid fun b v (h : Ents b b.heap.size v L) => asked_any L v k d ⟨#[]⟩ 0 b R hR hs (by omega) (by omega) (by decide) h
  have AS1 := Lib.hid fun b v (h : Ents b b.heap.size v L) => asked_any L v k d a m b R hR hs (by omega) (by omega) (by omega) h
  have hp0 : pgO ⟨#[]⟩ 0 = true := by decide +kernel
  rw [hp0, Bool.and_true] at AS0
  clear hp0
  have qb : Q w (w.alloc (.cells #[u, .string pp, .string dd, .string key, .int .u64 (id : Nat), .int .i64 m] 25)) := (Q.refl w).alloc _
  have bx := Bx.new w 25 #[u, .string pp, .string dd, .string key, .int .u64 (id : Nat), .int .i64 m]
  obtain ⟨A0, c0, rfl⟩ := t0.form
  go_enter Try.func3, Try.ntmps3
  go_wp2_with fail
  refine (CU.out _ qb).mono ?_
  rintro e w1 ⟨u1, rfl, e1, q1⟩
  obtain ⟨A1, c1, rfl⟩ := e1.form
  have bq := bx.on q1
  have x0 := bq.cell 0
  have x1 := bq.cell 1
  have x2 := bq.cell 2
  have x3 := bq.cell 3
  have x4 := bq.cell 4
  have x5 := bq.cell 5
  have f0 := bq.frozen 0
  have f1 := bq.frozen 1
  have f2 := bq.frozen 2
  have f3 := bq.frozen 3
  have f4 := bq.frozen 4
  have f5 := bq.frozen 5
  simp only [List.getElem?_toArray, List.getElem?_cons_zero, List.getElem?_cons_succ] at x0 x1 x2 x3 x4 x5
  obtain ⟨wA, hwA⟩ : ∃ wA, wA = (((((w1.setCell ⟨w.heap.size, 0, none⟩ (.slice A1 L.length c1)).setCell ⟨w.heap.size, 1, none⟩ (.string k)).setCell ⟨w.heap.size, 2, none⟩ (.string d)).setCell ⟨w.heap.size, 3, none⟩ (.string a)).setCell ⟨w.heap.size, 4, none⟩ (.int .u64 (id : Nat))).setCell ⟨w.heap.size, 5, none⟩ (.int .i64 m) := ⟨_, rfl⟩
  have bA : Bx wA w.heap.size 25 #[.slice A1 L.length c1, .string k, .string d, .string a, .int .u64 (id : Nat), .int .i64 m] := by
    rw [hwA]; exact (((((bq.set 0 _).set 1 _).set 2 _).set 3 _).set 4 _).set 5 _
  have qA : Q w wA := by rw [hwA]; exact Q.set (Q.set (Q.set (Q.set (Q.set (Q.set (qb.trans q1) (Nat.le_refl _) _) (Nat.le_refl _) _) (Nat.le_refl _) _) (Nat.le_refl _) _) (Nat.le_refl _) _) (Nat.le_refl _) _
  have t1 : Hid (Ents wA wA.heap.size (.slice A1 L.length c1) L) := Lib.hid (e1.boxed (B := w.heap.size) (t := 25) bq (fun j hj => by rw [hwA]; exact (heap_set _ _ _ _ hj).trans ((heap_set _ _ _ _ hj).trans ((heap_set _ _ _ _ hj).trans ((heap_set _ _ _ _ hj).trans ((heap_set _ _ _ _ hj).trans (heap_set _ _ _ _ hj)))))) (by rw [hwA]; simp))
  have HWA := Lib.hid hwA
  clear bx bq e1 q1 qb t0 hwA
  go_wp2_with fail
  rw [← HWA.out]
  clear HWA x0 x1 x2 x3 x4 x5 f0 f1 f2 f3 f4 f5
  refine (KC.out _ _ t1.out).mono ?_
  rintro e w2 ⟨A2, c2, B2, d2, rfl, e2, e3, q2⟩
  have t2 := Lib.hid e2
  have t3 := Lib.hid e3
  clear e2 e3
  have bP := Bx.new w2 29 #[.slice A2 P.keys.length c2, .slice B2 P.grps.length d2, .bool P.more, .string P.last]
  have q3 := q2.alloc (.cells #[.slice A2 P.keys.length c2, .slice B2 P.grps.length d2, .bool P.more, .string P.last] 29)
  have q23 := (Q.refl w2).alloc (.cells #[.slice A2 P.keys.length c2, .slice B2 P.grps.length d2, .bool P.more, .string P.last] 29)
  have bKx := bA.on q3
  have x0 := bKx.cell 0
  have x1 := bKx.cell 1
  have x2 := bKx.cell 2
  simp only [List.getElem?_toArray, List.getElem?_cons_zero, List.getElem?_cons_succ] at x0 x1 x2
  obtain ⟨w3, hw3⟩ : ∃ w3, w3 = w2.alloc (.cells #[.slice A2 P.keys.length c2, .slice B2 P.grps.length d2, .bool P.more, .string P.last] 29) := ⟨_, rfl⟩
  rw [← hw3] at bP q3 q23
  clear bKx
  have HW3 := Lib.hid hw3
  clear hw3
  go_wp2_with fail
  rw [← HW3.out]
  refine (TC.out _ _ (t1.out.on q3)).mono ?_
  rintro e w4 ⟨A4, c4, rfl, e4, q4⟩
  have t4 := Lib.hid e4
  have q34 := q3.trans q4
  clear e4 x0 x1 x2
  have bKy := bA.on q34
  have y0 := bKy.cell 0
  have y1 := bKy.cell 1
  have y2 := bKy.cell 2
  have y3 := bKy.cell 3
  have y5 := bKy.cell 5
  simp only [List.getElem?_toArray, List.getElem?_cons_zero, List.getElem?_cons_succ] at y0 y1 y2 y3 y5
  go_wp2_with fail
  refine (AS0.out _ _ (t1.out.on q34)).mono ?_
  rintro e w5 ⟨rfl, q5⟩
  have q35 := q34.trans q5
  clear y0 y1 y2 y3 y5
  have bP5 := bP.on (q4.trans q5)
  have bKy := bA.on q35
  have y0 := bKy.cell 0
  have y1 := bKy.cell 1
  have y2 := bKy.cell 2
  have y3 := bKy.cell 3
  have y5 := bKy.cell 5
  simp only [List.getElem?_toArray, List.getElem?_cons_zero, List.getElem?_cons_succ] at y0 y1 y2 y3 y5
  have p0 := bP5.cell 0
  have p1 := bP5.cell 1
  have p2 := bP5.cell 2
  have p3 := bP5.cell 3
  simp only [List.getElem?_toArray, List.getElem?_cons_zero, List.getElem?_cons_succ] at p0 p1 p2 p3
  rcases hN with ⟨h, hI, hN, rfl⟩ | ⟨h, rfl, rfl⟩
  · rw [h]
    have hkd := h
    simp only [Bool.and_eq_true] at hkd
    obtain ⟨⟨-, hk1⟩, hd1⟩ := hkd
    have RT := Lib.hid fun b v (ht : Ents b b.heap.size v L) => rthings_any L v k d b hI hs hk1 hd1 ht
    have hTl := (thF_all (okI_iff.1 hI).2.1 (fun e he => ((okI_iff.1 hI).2.2 e he).1) hk1 hd1).len
    have hL60 := hI.1
    have hN2 : thN k d L = N := by rw [hN]; rfl
    rw [hN2] at RT
    have hNl : N.length ≤ 60 := by rw [hN, List.length_map]; omega
    have SN := same_yes N (by omega)
    have HI := Lib.hid hI
    clear hN2 hN hI
    go_wp2_with fail
    refine (RT.out _ _ (t1.out.on q35)).mono ?_
    rintro e w6 ⟨A6, c6, rfl, -, e6, q6⟩
    have t6 := Lib.hid e6
    clear e6
    go_wp2_with fail
    refine (SN.out _ _ _ (t4.out.on (q5.trans q6)) t6.out).mono ?_
    rintro e w7 ⟨rfl, q7⟩
    have q57 := q6.trans q7
    have q37 := q35.trans q57
    clear y0 y1 y2 y3 y5
    have bKy := bA.on q37
    have y0 := bKy.cell 0
    have y1 := bKy.cell 1
    have y2 := bKy.cell 2
    have y3 := bKy.cell 3
    have y5 := bKy.cell 5
    simp only [List.getElem?_toArray, List.getElem?_cons_zero, List.getElem?_cons_succ] at y0 y1 y2 y3 y5
    go_wp2_with fail
    refine (AS1.out _ _ (t1.out.on q37)).mono ?_
    rintro e w8 ⟨rfl, q8⟩
    have q38 := q37.trans q8
    clear y0 y1 y2 y3 y5 p0 p1 p2 p3
    have bP8 := bP5.on (q57.trans q8)
    have bKy := bA.on q38
    have y0 := bKy.cell 0
    have y1 := bKy.cell 1
    have y2 := bKy.cell 2
    have y3 := bKy.cell 3
    have y5 := bKy.cell 5
    simp only [List.getElem?_toArray, List.getElem?_cons_zero, List.getElem?_cons_succ] at y0 y1 y2 y3 y5
    have p0 := bP8.cell 0
    have p1 := bP8.cell 1
    have p2 := bP8.cell 2
    have p3 := bP8.cell 3
    simp only [List.getElem?_toArray, List.getElem?_cons_zero, List.getElem?_cons_succ] at p0 p1 p2 p3
    rw [h] at hP ⊢
    rcases hP with ⟨h2, -, hP, rfl⟩ | ⟨h2, rfl, rfl⟩
    · rw [Bool.true_and] at h2 ⊢
      rw [h2]
      obtain ⟨n, rfl⟩ : ∃ n : Nat, m = n := ⟨m.toNat, by unfold pgO at h2; simp only [Bool.and_eq_true, decide_eq_true_eq] at h2; omega⟩
      have hn : n ≤ 1000 := by unfold pgO at h2; simp only [Bool.and_eq_true, decide_eq_true_eq] at h2; omega
      have RK := Lib.hid fun b v (ht : Ents b b.heap.size v L) => rpage_any L v k d a n b HI.out hs hk1 hd1 hn ht
      rw [Int.toNat_natCast] at hP
      rw [← hP] at RK
      have hPl : P.keys.length ≤ 60 ∧ P.grps.length ≤ 60 := by
        have hb := both_len ((bhd a (thgs k d L)).take n)
        have h3 : ((bhd a (thgs k d L)).take n).length ≤ (thgs k d L).length := Nat.le_trans (by rw [List.length_take]; exact Nat.min_le_right _ _) (List.length_filter_le _ _)
        have e1 : P.keys = keysOf ((bhd a (thgs k d L)).take n) := by rw [hP]; rfl
        have e2 : P.grps = grpsOf ((bhd a (thgs k d L)).take n) := by rw [hP]; rfl
        rw [e1, e2]; omega
      have SK := same_yes P.keys (by omega)
      have SG := same_yes P.grps (by omega)
      clear hP h h2 hTl hk1 hd1
      go_wp2_with fail
      refine (RK.out _ _ (t1.out.on q38)).mono ?_
      rintro e w9 ⟨A9, c9, B9, d9, rfl, e9, g9, q9⟩
      have t9 := Lib.hid e9
      have s9 := Lib.hid g9
      clear e9 g9 y0 y1 y2 y3 y5 p0 p1 p2 p3
      have bR := Bx.new w9 29 #[.slice A9 P.keys.length c9, .slice B9 P.grps.length d9, .bool P.more, .string P.last]
      have q10 := q9.alloc (.cells #[.slice A9 P.keys.length c9, .slice B9 P.grps.length d9, .bool P.more, .string P.last] 29)
      have q90 := (Q.refl w9).alloc (.cells #[.slice A9 P.keys.length c9, .slice B9 P.grps.length d9, .bool P.more, .string P.last] 29)
      have bP10 := bP8.on q10
      have p0 := bP10.cell 0
      have p1 := bP10.cell 1
      have p2 := bP10.cell 2
      have p3 := bP10.cell 3
      simp only [List.getElem?_toArray, List.getElem?_cons_zero, List.getElem?_cons_succ] at p0 p1 p2 p3
      have q2w : Q w2 w9 := ((q23.trans (q4.trans q5)).trans (q57.trans q8)).trans q9
      go_wp2_with fail
      refine (SK.out _ _ _ (t2.out.on (q2w.trans q90)) (t9.out.on q90)).mono ?_
      rintro e w11 ⟨rfl, q11⟩
      have q911 := q90.trans q11
      have r1 := (bR.on q11).cell 1
      have p1' := (bP10.on q11).cell 1
      simp only [List.getElem?_toArray, List.getElem?_cons_zero, List.getElem?_cons_succ] at r1 p1'
      go_wp2_with fail
      refine (SG.out _ _ _ (t3.out.on (q2w.trans q911)) (s9.out.on q911)).mono ?_
      rintro e w12 ⟨rfl, q12⟩
      have bR12 := (bR.on q11).on q12
      have bP12 := (bP10.on q11).on q12
      have r2 := bR12.cell 2
      have r3 := bR12.cell 3
      have p2' := bP12.cell 2
      have p3' := bP12.cell 3
      simp only [List.getElem?_toArray, List.getElem?_cons_zero, List.getElem?_cons_succ] at r2 r3 p2' p3'
      go_wp2_with fail
      refine (awake_any7 _).mono ?_
      rintro e w13 ⟨rfl, q13⟩
      have q := ((((qA.trans q38).trans q9).trans q911).trans q12).trans q13
      clear p0 p1 p2 p3 r1 p1' r2 r3 p2' p3' t1 t2 t3 t4 t6 t9 s9
      go_wp2
      go_ret
      exact ⟨rfl, q⟩
    · rw [Bool.true_and] at h2
      rw [h2]
      simp only [noPg, List.length_nil] at p0 p1 p2 p3
      simp only [Bool.true_and]
      go_wp2_with fail
      refine (awake_any7 _).mono ?_
      rintro e w9 ⟨rfl, q9⟩
      have q := (qA.trans q38).trans q9
      clear t1 t2 t3 t4 t6
      go_wp2
      go_ret
      exact ⟨rfl, q⟩
  · have hP2 := hP.resolve_left (fun q => by rw [h] at q; exact absurd q.1 (by simp))
    obtain ⟨-, rfl, rfl⟩ := hP2
    rw [h]
    simp only [noPg, List.length_nil] at p0 p1 p2 p3
    go_wp2_with fail
    refine (awake_any7 _).mono ?_
    rintro e w9 ⟨rfl, q9⟩
    have q := (qA.trans q35).trans q9
    clear t1 t2 t3 t4
    go_wp2
    go_ret
    exact ⟨rfl, q⟩

set_option maxRecDepth 100000 in
theorem lifted (os : Os) (started : os.Started) (H : Type) (enc : TypeId × Value → H) :
    ReturnsInHanded {} Try.checked os 3 .any (Rows.pagerKeysSpec.pre6 enc Try.prog Try.f3 Rows.pagerKeysRow.domain false) (Rows.pagerKeysSpec.post enc Try.prog Try.f3 false true false false) := by
  refine returnsInHanded_of_change (C := Try.checked) own started (by kernel_rfl) Try.func3
    (ChangeSpec.witness6 (enc := enc) (C := Try.checked) false ⟨#[], #[.agg #[.slice none 0 0, .string ByteArray.empty, .string ByteArray.empty, .string ByteArray.empty, .int .u64 0, .int .i64 0]], []⟩ 8 (by kernel_rfl) (by kernel_rfl) (by kernel_rfl) (by kernel_rfl)) ?_
  intro W base args ds gs before hval0 hW hcnd _
  have hval : ∀ (j : Nat) t v, Try.f3.params[j]? = some t → args[j]? = some v → Value.okWide Try.prog W .any base t v := hval0
  have hW' := hW
  obtain ⟨p, q, hA0, hV, rfl, hfz, hnd⟩ := hW
  have hA : DataW.TrodAll enc Try.prog W 0 (fun _ => true) true Try.f3.params.toList args.toList ds p := hA0
  rw [Try.params3] at hA hval
  obtain ⟨v0, vs0, d0, ds0, p0, q0, hargs, rfl, rfl, h0, r0⟩ := trodAll_cons hA
  obtain ⟨rfl, rfl, rfl⟩ := trodAll_nil r0
  obtain rfl : args = #[v0] := by cases args; simp_all
  obtain ⟨rfl, rfl⟩ := trodVars_none hV
  clear hA0 hval0
  simp only [List.append_nil] at hW'
  have hlt : ∀ x ∈ p0, x.block < W.heap.size := fun x hx => by simpa using hW'.lt x (by simpa using hx)
  obtain ⟨u0, l0, p0q, d0q, k0q, n0q, m0q, rfl, t0, z0, sp0, sd0, sk0, si0, sm0, sn0⟩ := open_ask (hval 0 25 v0 rfl rfl) h0
  refine (walk u0 l0 p0q d0q k0q n0q m0q W t0 z0 sp0 sd0 sk0 si0 sm0 sn0).mono fun e W' ⟨he, bel⟩ => ?_
  subst he
  refine ⟨_, rfl, _, _, _, [], _, [], hW', trodAll_mk1 (shut_bool Try.underlying4 _), (trodAll_cons_mk (Below.trod laid (by kernel_rfl) (of_decide_eq_true (by kernel_rfl)) h0 bel (fun x hx => hlt x (by simp [hx]))) trodAll_mk0), rfl, Below.frame bel _, fun h => by cases h⟩

theorem over : Rows.pagerKeysRow.holds Try.pinned (OpenSpec.ofChange Rows.pagerKeysSpec) :=
  OpenClaim.holds_of_wide 3 Try.f3 rfl rfl rfl rfl rfl rfl rfl ⟨rfl, rfl, rfl, rfl, rfl⟩ rfl rfl rfl rfl rfl (by kernel_rfl) Try.func3 (by kernel_rfl)
    (of_decide_eq_true (by kernel_rfl)) (by unfold Func.isWrapper; first | (rw [if_pos (by decide +kernel)]; kernel_rfl) | (rw [if_neg (by decide +kernel)]; exact ⟨rfl, rfl⟩))
    (fun os started H enc _ => lifted os started H enc)

theorem proved : Rows.PagerKeysSaid := over
#print axioms proved
end Go.Proofs.Ytipipjpdlblifaa.pagerKeys
