/-
  Proved: whatever is asked PagerRows for, it returns true and leaves what it was given as it was. No condition.
-/
import Derived.Test.YtipipjpdlblifaaGCut
import Derived.Test.YtipipjpdlblifaaGRBig
namespace Go.Proofs.Ytipipjpdlblifaa.pagerRows
open Go.ChangeShapes Go.WideShapes Go.ChangeAt Go.RowKit
open Go.ChangeMaps (open_string shut_string)
set_option linter.unusedVariables false
set_option linter.unusedSimpArgs false

set_option maxHeartbeats 8000000 in
set_option maxRecDepth 100000 in
theorem walk (u : Value) (l : List Ent) (pp dd key : ByteArray) (id : Nat) (m : Int) (w : World) (t0 : Ents w w.heap.size u l) (z0 : l.length ≤ maxLen) (sp : pp.size ≤ maxLen) (sd : dd.size ≤ maxLen) (sk : key.size ≤ maxLen) (si : id < 18446744073709551616) (sm : -9223372036854775808 ≤ m) (sn : m ≤ 9223372036854775807) :
    Calls Try.prog 4 #[.agg #[u, .string pp, .string dd, .string key, .int .u64 (id : Nat), .int .i64 m]] w fun e w' => e = .returned (.bool true) ∧ Q w w' := by
  have hlen : (fewE l).length ≤ 61 := fewE_len l
  have hs : Small (fewE l) := tiny_small (by omega) (fewE_tiny l)
  have hks := fewS_size pp
  have hds := fewS_size dd
  have has := fewS_size key
  have CU := Lib.hid fun b (q : Q w b) => cut_ask l u pp dd key id m b z0 sp sd sk (t0.on q)
  obtain ⟨L, hL⟩ : ∃ L, L = fewE l := ⟨_, rfl⟩
  obtain ⟨k, hk⟩ : ∃ k, k = fewS pp := ⟨_, rfl⟩
  obtain ⟨d, hd⟩ : ∃ d, d = fewS dd := ⟨_, rfl⟩
  obtain ⟨a, ha⟩ : ∃ a, a = fewS key := ⟨_, rfl⟩
  rw [← hL] at hlen hs CU
  rw [← hk] at hks CU
  rw [← hd] at hds CU
  rw [← ha] at has CU
  clear hL hk hd ha
  have hL1 := hs.1
  obtain ⟨R, hR⟩ := chkI_ex L
  obtain ⟨P, hP, KC⟩ := rows_whole L k a id m R hR hs (by omega) (by omega)
  have AS1 := Lib.hid fun b v (h : Ents b b.heap.size v L) => asked_any L v k ⟨#[]⟩ a m b R hR hs (by omega) (by decide) (by omega) h
  have hd0 : hasO 0 1 ko ⟨#[]⟩ = true := by decide +kernel
  rw [hd0, Bool.and_true] at AS1
  obtain ⟨PR, PM, PE⟩ := P
  unfold RowsC at KC
  simp only at KC
  have HP := Lib.hid hP
  clear hd0 hP
  have qb : Q w (w.alloc (.cells #[u, .string pp, .string dd, .string key, .int .u64 (id : Nat), .int .i64 m] 25)) := (Q.refl w).alloc _
  have bx := Bx.new w 25 #[u, .string pp, .string dd, .string key, .int .u64 (id : Nat), .int .i64 m]
  obtain ⟨A0, c0, rfl⟩ := t0.form
  go_enter Try.func4, Try.ntmps4
  go_wp2_with fail
  refine (CU.out _ qb).mono ?_
  rintro e w1 ⟨u1, rfl, e1, q1⟩
  obtain ⟨A1, c1, rfl⟩ := e1.form
  have bq := bx.on q1
  have x0 := bq.cell 0
  have x1 := bq.cell 1
  have x2 := bq.cell 2
  have x3 := bq.cell 3
  have x4 := bq.cell 4
  have x5 := bq.cell 5
  have f0 := bq.frozen 0
  have f1 := bq.frozen 1
  have f2 := bq.frozen 2
  have f3 := bq.frozen 3
  have f4 := bq.frozen 4
  have f5 := bq.frozen 5
  simp only [List.getElem?_toArray, List.getElem?_cons_zero, List.getElem?_cons_succ] at x0 x1 x2 x3 x4 x5
  obtain ⟨wA, hwA⟩ : ∃ wA, wA = (((((w1.setCell ⟨w.heap.size, 0, none⟩ (.slice A1 L.length c1)).setCell ⟨w.heap.size, 1, none⟩ (.string k)).setCell ⟨w.heap.size, 2, none⟩ (.string d)).setCell ⟨w.heap.size, 3, none⟩ (.string a)).setCell ⟨w.heap.size, 4, none⟩ (.int .u64 (id : Nat))).setCell ⟨w.heap.size, 5, none⟩ (.int .i64 m) := ⟨_, rfl⟩
  have bA : Bx wA w.heap.size 25 #[.slice A1 L.length c1, .string k, .string d, .string a, .int .u64 (id : Nat), .int .i64 m] := by
    rw [hwA]; exact (((((bq.set 0 _).set 1 _).set 2 _).set 3 _).set 4 _).set 5 _
  have qA : Q w wA := by rw [hwA]; exact Q.set (Q.set (Q.set (Q.set (Q.set (Q.set (qb.trans q1) (Nat.le_refl _) _) (Nat.le_refl _) _) (Nat.le_refl _) _) (Nat.le_refl _) _) (Nat.le_refl _) _) (Nat.le_refl _) _
  have t1 : Hid (Ents wA wA.heap.size (.slice A1 L.length c1) L) := Lib.hid (e1.boxed (B := w.heap.size) (t := 25) bq (fun j hj => by rw [hwA]; exact (heap_set _ _ _ _ hj).trans ((heap_set _ _ _ _ hj).trans ((heap_set _ _ _ _ hj).trans ((heap_set _ _ _ _ hj).trans ((heap_set _ _ _ _ hj).trans (heap_set _ _ _ _ hj)))))) (by rw [hwA]; simp))
  have HWA := Lib.hid hwA
  clear bx bq e1 q1 qb t0 hwA
  go_wp2_with fail
  rw [← HWA.out]
  clear HWA x0 x1 x2 x3 x4 x5 f0 f1 f2 f3 f4 f5
  refine (KC.out _ _ t1.out).mono ?_
  rintro e w2 ⟨A2, c2, rfl, e2, q2⟩
  have t2 := Lib.hid e2
  clear e2
  have bKy := bA.on q2
  have y0 := bKy.cell 0
  have y1 := bKy.cell 1
  have y3 := bKy.cell 3
  have y5 := bKy.cell 5
  simp only [List.getElem?_toArray, List.getElem?_cons_zero, List.getElem?_cons_succ] at y0 y1 y3 y5
  go_wp2_with fail
  refine (AS1.out _ _ (t1.out.on q2)).mono ?_
  rintro e w3 ⟨rfl, q3⟩
  have q23 := q2.trans q3
  clear y0 y1 y3 y5
  have bKy := bA.on q23
  have y0 := bKy.cell 0
  have y1 := bKy.cell 1
  have y3 := bKy.cell 3
  have y4 := bKy.cell 4
  have y5 := bKy.cell 5
  simp only [List.getElem?_toArray, List.getElem?_cons_zero, List.getElem?_cons_succ] at y0 y1 y3 y4 y5
  rcases HP.out with ⟨h, hI, hm0, hm1, hP⟩ | ⟨h, hP⟩
  · rw [h]
    obtain ⟨n, rfl⟩ : ∃ n : Nat, m = n := ⟨m.toNat, by omega⟩
    rw [Int.toNat_natCast] at hP
    have hr := rows_len (p := k) (okI_few hI)
    have hPl : PR.length ≤ 1200 := by
      have h60 := hI.1
      have e1 : PR = (rowsPg a id n (rowsO k L)).1 := congrArg (·.1) hP
      rw [e1, rowsPg]
      split
      · simp only [List.length_take]
        have : (bhL a id (rowsO k L)).length ≤ (rowsO k L).length := by
          unfold bhL
          split
          · exact Nat.le_refl _
          · have h1 := (List.dropWhile_sublist (l := rowsO k L) (p := fun r => !isR a id r)).length_le
            rw [List.length_drop]; omega
        omega
      · simp
    have RR := Lib.hid fun b v (ht : Ents b b.heap.size v L) => rrows_any L v k a id n b PR PM PE hI.1 (okI_few hI) hs (by omega) (by omega) (by omega) (okI_apart hI) hP.symm ht
    have SM := Lib.hid fun b u v (h1 : RowsV b b.heap.size u PR) (h2 : RowsV b b.heap.size v PR) => sameR_yes PR u v b (by omega) h1 h2
    clear hP hr h hI hPl HP
    go_wp2_with fail
    refine (RR.out _ _ (t1.out.on q23)).mono ?_
    rintro e w4 ⟨A4, c4, rfl, e4, q4⟩
    have t4 := Lib.hid e4
    clear e4
    go_wp2_with fail
    refine (SM.out _ _ _ (t2.out.on (q3.trans q4)) t4.out).mono ?_
    rintro e w5 ⟨rfl, q5⟩
    have q := ((qA.trans q23).trans q4).trans q5
    cases PM with
    | true =>
      go_wp2_with fail
      refine (awake_any7 _).mono ?_
      rintro e w13 ⟨rfl, q13⟩
      go_wp2
      go_ret
      exact ⟨rfl, q.trans q13⟩
    | false =>
      go_wp2_with fail
      refine (awake_any7 _).mono ?_
      rintro e w13 ⟨rfl, q13⟩
      go_wp2
      go_ret
      exact ⟨rfl, q.trans q13⟩
  · rw [h]
    simp only [Prod.mk.injEq] at hP
    obtain ⟨rfl, rfl, rfl⟩ := hP
    simp only [List.length_nil]
    clear h HP
    go_wp2_with fail
    refine (awake_any7 _).mono ?_
    rintro e w13 ⟨rfl, q13⟩
    go_wp2
    go_ret
    exact ⟨rfl, (qA.trans q23).trans q13⟩

set_option maxRecDepth 100000 in
theorem lifted (os : Os) (started : os.Started) (H : Type) (enc : TypeId × Value → H) :
    ReturnsInHanded {} Try.checked os 4 .any (Rows.pagerRowsSpec.pre6 enc Try.prog Try.f4 Rows.pagerRowsRow.domain false) (Rows.pagerRowsSpec.post enc Try.prog Try.f4 false true false false) := by
  refine returnsInHanded_of_change (C := Try.checked) own started (by kernel_rfl) Try.func4
    (ChangeSpec.witness6 (enc := enc) (C := Try.checked) false ⟨#[], #[.agg #[.slice none 0 0, .string ByteArray.empty, .string ByteArray.empty, .string ByteArray.empty, .int .u64 0, .int .i64 0]], []⟩ 8 (by kernel_rfl) (by kernel_rfl) (by kernel_rfl) (by kernel_rfl)) ?_
  intro W base args ds gs before hval0 hW hcnd _
  have hval : ∀ (j : Nat) t v, Try.f4.params[j]? = some t → args[j]? = some v → Value.okWide Try.prog W .any base t v := hval0
  have hW' := hW
  obtain ⟨p, q, hA0, hV, rfl, hfz, hnd⟩ := hW
  have hA : DataW.TrodAll enc Try.prog W 0 (fun _ => true) true Try.f4.params.toList args.toList ds p := hA0
  rw [Try.params4] at hA hval
  obtain ⟨v0, vs0, d0, ds0, p0, q0, hargs, rfl, rfl, h0, r0⟩ := trodAll_cons hA
  obtain ⟨rfl, rfl, rfl⟩ := trodAll_nil r0
  obtain rfl : args = #[v0] := by cases args; simp_all
  obtain ⟨rfl, rfl⟩ := trodVars_none hV
  clear hA0 hval0
  simp only [List.append_nil] at hW'
  have hlt : ∀ x ∈ p0, x.block < W.heap.size := fun x hx => by simpa using hW'.lt x (by simpa using hx)
  obtain ⟨u0, l0, p0q, d0q, k0q, n0q, m0q, rfl, t0, z0, sp0, sd0, sk0, si0, sm0, sn0⟩ := open_ask (hval 0 25 v0 rfl rfl) h0
  refine (walk u0 l0 p0q d0q k0q n0q m0q W t0 z0 sp0 sd0 sk0 si0 sm0 sn0).mono fun e W' ⟨he, bel⟩ => ?_
  subst he
  refine ⟨_, rfl, _, _, _, [], _, [], hW', trodAll_mk1 (shut_bool Try.underlying4 _), (trodAll_cons_mk (Below.trod laid (by kernel_rfl) (of_decide_eq_true (by kernel_rfl)) h0 bel (fun x hx => hlt x (by simp [hx]))) trodAll_mk0), rfl, Below.frame bel _, fun h => by cases h⟩

theorem over : Rows.pagerRowsRow.holds Try.pinned (OpenSpec.ofChange Rows.pagerRowsSpec) :=
  OpenClaim.holds_of_wide 4 Try.f4 rfl rfl rfl rfl rfl rfl rfl ⟨rfl, rfl, rfl, rfl, rfl⟩ rfl rfl rfl rfl rfl (by kernel_rfl) Try.func4 (by kernel_rfl)
    (of_decide_eq_true (by kernel_rfl)) (by unfold Func.isWrapper; first | (rw [if_pos (by decide +kernel)]; kernel_rfl) | (rw [if_neg (by decide +kernel)]; exact ⟨rfl, rfl⟩))
    (fun os started H enc _ => lifted os started H enc)

theorem proved : Rows.PagerRowsSaid := over
#print axioms proved
end Go.Proofs.Ytipipjpdlblifaa.pagerRows
