/-
  Proved: whatever chain and ID ChainGets is called with, it returns true and leaves what it was given as it was. No condition.
-/
import Derived.Test.YtflfhigldkdlmaaVBox
namespace Go.Proofs.Ytflfhigldkdlmaa.chainGets
open Go.ChangeShapes Go.WideShapes Go.ChangeAt Go.RowKit
open Go.ChangeMaps (open_string shut_string)
set_option linter.unusedVariables false
set_option linter.unusedSimpArgs false

set_option maxHeartbeats 4000000 in
set_option maxRecDepth 100000 in
theorem walk_ok (l : List Ver) (v : Value) (id : Nat) (w : World) (t0 : Vers w w.heap.size v l) (z0 : l.length ≤ maxLen) (hR : okP (fewV l)) :
    Calls Try.prog 4 #[v, .int .u64 (id : Nat)] w fun e w' => e = .returned (.bool true) ∧ Q w w' := by
  obtain ⟨L, hL, hlen, hfew, hok, FW⟩ := few_all l v w z0 t0
  rw [← hL] at hR
  have OK := Lib.hid hok
  have FW2 : Hid (∀ (b : World) (u : Value) (hu : Vers b b.heap.size u L), Calls Try.prog 10 #[u] b fun e w' => ∃ v', e = .returned v' ∧ OwnV b.heap.size w' v' L ∧ Q b w') := Lib.hid (fun b u hu => by
    have := few_any L u b (by unfold maxLen; omega) hu
    rw [hfew] at this
    exact this)
  obtain ⟨DL, dc, hD⟩ := dropC_ex L id
  have HDL := Lib.hid (dropC_okV hD hok)
  have HDN := Lib.hid (dropC_len hD)
  have DR : Hid (∀ (b : World) (u : Value) (hu : Vers b b.heap.size u L), Calls Try.prog 20 #[u, .int .u64 (id : Nat)] b fun e w' => ∃ v', e = .returned (.tuple #[v', .int .i64 (dc : Nat)]) ∧ OwnV b.heap.size w' v' DL ∧ Q b w') := Lib.hid (fun b u hu => drop_any L u id b DL dc hD (by omega) hu)
  have DR2 : Hid (∀ (b : World) (u : Value) (hu : Vers b b.heap.size u L), Calls Try.prog 21 #[u, .int .u64 (id : Nat)] b fun e w' => ∃ v', e = .returned (.tuple #[v', .int .i64 (dc : Nat)]) ∧ OwnV b.heap.size w' v' DL ∧ Q b w') := Lib.hid (fun b u hu => rdrop_any L u id b DL dc hD (by omega) hu)
  have S1 : Hid (∀ (b : World) (u u2 : Value) (hu : Vers b b.heap.size u DL) (hu2 : Vers b b.heap.size u2 DL), Calls Try.prog 16 #[u, u2] b fun e w' => e = .returned (.bool true) ∧ Q b w') := Lib.hid (fun b u u2 hu hu2 => same_any DL u u2 b (Nat.le_trans HDN.out (by omega)) hu hu2)
  have S2 : Hid (∀ (b : World) (u u2 : Value) (hu : Vers b b.heap.size u L) (hu2 : Vers b b.heap.size u2 L), Calls Try.prog 16 #[u, u2] b fun e w' => e = .returned (.bool true) ∧ Q b w') := Lib.hid (fun b u u2 hu hu2 => same_any L u u2 b (by omega) hu hu2)
  obtain ⟨gi, gd, gm, gt, ge, hg⟩ := findR_parts L.head?
  obtain ⟨fi, fd, fm, ft, fe, hf⟩ := findR_parts (findV L id)
  have GT : Hid (∀ (b : World) (u : Value) (hu : Vers b b.heap.size u L), Calls Try.prog 22 #[u] b fun e w' => e = .returned (.tuple #[.agg #[.int .u64 (gi : Nat), .string gd, .bool gm, .int .i64 gt], .int .i64 ge]) ∧ Q b w') := Lib.hid (fun b u hu => by
    have := get_any L u b hR (by omega) hu
    rw [hg] at this
    exact this)
  have GT2 : Hid (∀ (b : World) (u : Value) (hu : Vers b b.heap.size u L), Calls Try.prog 23 #[u] b fun e w' => e = .returned (.tuple #[.agg #[.int .u64 (gi : Nat), .string gd, .bool gm, .int .i64 gt], .int .i64 ge]) ∧ Q b w') := Lib.hid (fun b u hu => by
    rw [← hg]
    cases L with
    | nil => exact rget_nil u b hu
    | cons x r => exact rget_yes (x :: r) u b (by simp) hR (by omega) hu)
  have CK : Hid (∀ (b : World) (u : Value) (hu : Vers b b.heap.size u L), Calls Try.prog 18 #[u] b fun e w' => e = .returned (.bool true) ∧ Q b w') := Lib.hid (fun b u hu => rcheck_any L u b true (.inl ⟨rfl, hR⟩) (by omega) hu)
  have FD : Hid (∀ (b : World) (u : Value) (hu : Vers b b.heap.size u L), Calls Try.prog 24 #[u, .int .u64 (id : Nat)] b fun e w' => e = .returned (.tuple #[.agg #[.int .u64 (fi : Nat), .string fd, .bool fm, .int .i64 ft], .int .i64 fe]) ∧ Q b w') := Lib.hid (fun b u hu => by
    have := find_any L u id b hR (by omega) hu
    rw [hf] at this
    exact this)
  have FD2 : Hid (∀ (b : World) (u : Value) (hu : Vers b b.heap.size u L), Calls Try.prog 25 #[u, .int .u64 (id : Nat)] b fun e w' => e = .returned (.tuple #[.agg #[.int .u64 (fi : Nat), .string fd, .bool fm, .int .i64 ft], .int .i64 fe]) ∧ Q b w') := Lib.hid (fun b u hu => by
    have := rfind_any L u id b (.inl ⟨rfl, hR⟩) (by omega) hu
    rw [hf] at this
    exact this)
  clear hg hf
  clear hD hok hfew hL hR t0
  go_enter Try.func4, Try.ntmps4
  go_wp2_with fail
  refine (FW.out).mono ?_
  rintro e w1 ⟨v1, rfl, o1, q1⟩
  have t1 := Lib.hid (o1.vers OK.out)
  clear o1
  go_wp2_with fail
  refine (FW2.out _ _ t1.out).mono ?_
  rintro e w2 ⟨v2, rfl, o2, q2⟩
  have t2 := Lib.hid (o2.vers OK.out)
  clear o2
  go_wp2_with fail
  refine (DR.out _ _ (t1.out.on ((Q.refl _).trans q2))).mono ?_
  rintro e w3 ⟨v3, rfl, o3, q3⟩
  have t3 := Lib.hid (o3.vers HDL.out)
  clear o3
  go_wp2_with fail
  refine (DR2.out _ _ (t1.out.on (((Q.refl _).trans q2).trans q3))).mono ?_
  rintro e w4 ⟨v4, rfl, o4, q4⟩
  have t4 := Lib.hid (o4.vers HDL.out)
  clear o4
  go_wp2_with fail
  refine (GT.out _ _ (t1.out.on ((((Q.refl _).trans q2).trans q3).trans q4))).mono ?_
  rintro e w5 ⟨rfl, q5⟩
  go_wp2_with fail
  refine (GT2.out _ _ (t1.out.on ((((((Q.refl _).trans q2).trans q3).trans q4).trans q5).alloc _))).mono ?_
  rintro e w6 ⟨rfl, q6⟩
  go_wp2_with fail
  refine (CK.out _ _ (t1.out.on ((((((((Q.refl _).trans q2).trans q3).trans q4).trans q5).alloc _).trans q6).alloc _))).mono ?_
  rintro e w7 ⟨rfl, q7⟩
  go_wp2_with fail
  refine (FD.out _ _ (t1.out.on (((((((((Q.refl _).trans q2).trans q3).trans q4).trans q5).alloc _).trans q6).alloc _).trans q7))).mono ?_
  rintro e w8 ⟨rfl, q8⟩
  go_wp2_with fail
  refine (FD2.out _ _ (t1.out.on (((((((((((Q.refl _).trans q2).trans q3).trans q4).trans q5).alloc _).trans q6).alloc _).trans q7).trans q8).alloc _))).mono ?_
  rintro e w9 ⟨rfl, q9⟩
  go_wp2_with fail
  refine (S1.out _ _ _ (t3.out.on (((((((((((Q.refl _).trans q4).trans q5).alloc _).trans q6).alloc _).trans q7).trans q8).alloc _).trans q9).alloc _)) (t4.out.on ((((((((((Q.refl _).trans q5).alloc _).trans q6).alloc _).trans q7).trans q8).alloc _).trans q9).alloc _))).mono ?_
  rintro e w10 ⟨rfl, q10⟩
  obtain ⟨a50, a51, a52, a53⟩ := box_of (w := w5) (((((((((Q.refl _).trans q6).alloc _).trans q7).trans q8).alloc _).trans q9).alloc _).trans q10)
  obtain ⟨a60, a61, a62, a63⟩ := box_of (w := w6) (((((((Q.refl _).trans q7).trans q8).alloc _).trans q9).alloc _).trans q10)
  obtain ⟨a80, a81, a82, a83⟩ := box_of (w := w8) ((((Q.refl _).trans q9).alloc _).trans q10)
  obtain ⟨a90, a91, a92, a93⟩ := box_of (w := w9) ((Q.refl _).trans q10)
  go_wp2_with fail
  refine (S2.out _ _ _ (t1.out.on ((((((((((((((Q.refl _).trans q2).trans q3).trans q4).trans q5).alloc _).trans q6).alloc _).trans q7).trans q8).alloc _).trans q9).alloc _).trans q10)) (t2.out.on (((((((((((((Q.refl _).trans q3).trans q4).trans q5).alloc _).trans q6).alloc _).trans q7).trans q8).alloc _).trans q9).alloc _).trans q10))).mono ?_
  rintro e w11 ⟨rfl, q11⟩
  go_wp2_with fail
  refine (awake_any _).mono ?_
  rintro e w12 ⟨rfl, q12⟩
  clear FW FW2 DR DR2 S1 S2 GT GT2 CK FD FD2 t1 t2 t3 t4
  go_wp2
  go_ret
  exact ⟨rfl, (((((((((((((((((Q.refl _).trans q1).trans q2).trans q3).trans q4).trans q5).alloc _).trans q6).alloc _).trans q7).trans q8).alloc _).trans q9).alloc _).trans q10).trans q11).trans q12)⟩
set_option maxHeartbeats 4000000 in
set_option maxRecDepth 100000 in
theorem walk_no (l : List Ver) (v : Value) (id : Nat) (w : World) (t0 : Vers w w.heap.size v l) (z0 : l.length ≤ maxLen) (hR : ¬ okP (fewV l)) :
    Calls Try.prog 4 #[v, .int .u64 (id : Nat)] w fun e w' => e = .returned (.bool true) ∧ Q w w' := by
  obtain ⟨L, hL, hlen, hfew, hok, FW⟩ := few_all l v w z0 t0
  rw [← hL] at hR
  have OK := Lib.hid hok
  have FW2 : Hid (∀ (b : World) (u : Value) (hu : Vers b b.heap.size u L), Calls Try.prog 10 #[u] b fun e w' => ∃ v', e = .returned v' ∧ OwnV b.heap.size w' v' L ∧ Q b w') := Lib.hid (fun b u hu => by
    have := few_any L u b (by unfold maxLen; omega) hu
    rw [hfew] at this
    exact this)
  obtain ⟨DL, dc, hD⟩ := dropC_ex L id
  have HDL := Lib.hid (dropC_okV hD hok)
  have HDN := Lib.hid (dropC_len hD)
  have DR : Hid (∀ (b : World) (u : Value) (hu : Vers b b.heap.size u L), Calls Try.prog 20 #[u, .int .u64 (id : Nat)] b fun e w' => ∃ v', e = .returned (.tuple #[v', .int .i64 (dc : Nat)]) ∧ OwnV b.heap.size w' v' DL ∧ Q b w') := Lib.hid (fun b u hu => drop_any L u id b DL dc hD (by omega) hu)
  have DR2 : Hid (∀ (b : World) (u : Value) (hu : Vers b b.heap.size u L), Calls Try.prog 21 #[u, .int .u64 (id : Nat)] b fun e w' => ∃ v', e = .returned (.tuple #[v', .int .i64 (dc : Nat)]) ∧ OwnV b.heap.size w' v' DL ∧ Q b w') := Lib.hid (fun b u hu => rdrop_any L u id b DL dc hD (by omega) hu)
  have S1 : Hid (∀ (b : World) (u u2 : Value) (hu : Vers b b.heap.size u DL) (hu2 : Vers b b.heap.size u2 DL), Calls Try.prog 16 #[u, u2] b fun e w' => e = .returned (.bool true) ∧ Q b w') := Lib.hid (fun b u u2 hu hu2 => same_any DL u u2 b (Nat.le_trans HDN.out (by omega)) hu hu2)
  have S2 : Hid (∀ (b : World) (u u2 : Value) (hu : Vers b b.heap.size u L) (hu2 : Vers b b.heap.size u2 L), Calls Try.prog 16 #[u, u2] b fun e w' => e = .returned (.bool true) ∧ Q b w') := Lib.hid (fun b u u2 hu hu2 => same_any L u u2 b (by omega) hu hu2)
  have GT : Hid (∀ (b : World) (u : Value) (hu : Vers b b.heap.size u L), Calls Try.prog 22 #[u] b fun e w' => e = .returned (.tuple #[.agg #[.int .u64 0, .string ⟨#[]⟩, .bool false, .int .i64 0], .int .i64 1]) ∧ Q b w') := Lib.hid (fun b u hu => get_arg L u b hR (by omega) hu)
  have GT2 : Hid (∀ (b : World) (u : Value) (hu : Vers b b.heap.size u L), Calls Try.prog 23 #[u] b fun e w' => e = .returned (.tuple #[.agg #[.int .u64 0, .string ⟨#[]⟩, .bool false, .int .i64 0], .int .i64 1]) ∧ Q b w') := Lib.hid (fun b u hu => by
    cases L with
    | nil => exact absurd okP_nil hR
    | cons x r => exact rget_arg (x :: r) u b (by simp) (.inr ⟨rfl, hR⟩) (by omega) hu)
  have CK : Hid (∀ (b : World) (u : Value) (hu : Vers b b.heap.size u L), Calls Try.prog 18 #[u] b fun e w' => e = .returned (.bool false) ∧ Q b w') := Lib.hid (fun b u hu => rcheck_any L u b false (.inr ⟨rfl, hR⟩) (by omega) hu)
  have FD : Hid (∀ (b : World) (u : Value) (hu : Vers b b.heap.size u L), Calls Try.prog 24 #[u, .int .u64 (id : Nat)] b fun e w' => e = .returned (.tuple #[.agg #[.int .u64 0, .string ⟨#[]⟩, .bool false, .int .i64 0], .int .i64 1]) ∧ Q b w') := Lib.hid (fun b u hu => find_arg L u id b hR (by omega) hu)
  have FD2 : Hid (∀ (b : World) (u : Value) (hu : Vers b b.heap.size u L), Calls Try.prog 25 #[u, .int .u64 (id : Nat)] b fun e w' => e = .returned (.tuple #[.agg #[.int .u64 0, .string ⟨#[]⟩, .bool false, .int .i64 0], .int .i64 1]) ∧ Q b w') := Lib.hid (fun b u hu => rfind_arg L u id b (.inr ⟨rfl, hR⟩) (by omega) hu)
  clear hD hok hfew hL hR t0
  go_enter Try.func4, Try.ntmps4
  go_wp2_with fail
  refine (FW.out).mono ?_
  rintro e w1 ⟨v1, rfl, o1, q1⟩
  have t1 := Lib.hid (o1.vers OK.out)
  clear o1
  go_wp2_with fail
  refine (FW2.out _ _ t1.out).mono ?_
  rintro e w2 ⟨v2, rfl, o2, q2⟩
  have t2 := Lib.hid (o2.vers OK.out)
  clear o2
  go_wp2_with fail
  refine (DR.out _ _ (t1.out.on ((Q.refl _).trans q2))).mono ?_
  rintro e w3 ⟨v3, rfl, o3, q3⟩
  have t3 := Lib.hid (o3.vers HDL.out)
  clear o3
  go_wp2_with fail
  refine (DR2.out _ _ (t1.out.on (((Q.refl _).trans q2).trans q3))).mono ?_
  rintro e w4 ⟨v4, rfl, o4, q4⟩
  have t4 := Lib.hid (o4.vers HDL.out)
  clear o4
  go_wp2_with fail
  refine (GT.out _ _ (t1.out.on ((((Q.refl _).trans q2).trans q3).trans q4))).mono ?_
  rintro e w5 ⟨rfl, q5⟩
  go_wp2_with fail
  refine (GT2.out _ _ (t1.out.on ((((((Q.refl _).trans q2).trans q3).trans q4).trans q5).alloc _))).mono ?_
  rintro e w6 ⟨rfl, q6⟩
  go_wp2_with fail
  refine (CK.out _ _ (t1.out.on ((((((((Q.refl _).trans q2).trans q3).trans q4).trans q5).alloc _).trans q6).alloc _))).mono ?_
  rintro e w7 ⟨rfl, q7⟩
  obtain ⟨f0, f1, f2, f3⟩ := box_free q7
  obtain ⟨z0, z1, z2, z3⟩ := box_of q7
  have BS := Lib.hid (box_set (i' := 0) (d' := ⟨#[]⟩) (m' := false) (t' := 0) q7)
  go_wp2_with fail
  refine (FD.out _ _ (t1.out.on (((((((((((((Q.refl _).trans q2).trans q3).trans q4).trans q5).alloc _).trans q6).alloc _).trans q7).set (Q.size (((((((Q.refl _).trans q2).trans q3).trans q4).trans q5).alloc _).trans q6)) _).set (Q.size (((((((Q.refl _).trans q2).trans q3).trans q4).trans q5).alloc _).trans q6)) _).set (Q.size (((((((Q.refl _).trans q2).trans q3).trans q4).trans q5).alloc _).trans q6)) _).set (Q.size (((((((Q.refl _).trans q2).trans q3).trans q4).trans q5).alloc _).trans q6)) _))).mono ?_
  rintro e w8 ⟨rfl, q8⟩
  go_wp2_with fail
  refine (FD2.out _ _ (t1.out.on (((((((((((((((Q.refl _).trans q2).trans q3).trans q4).trans q5).alloc _).trans q6).alloc _).trans q7).set (Q.size (((((((Q.refl _).trans q2).trans q3).trans q4).trans q5).alloc _).trans q6)) _).set (Q.size (((((((Q.refl _).trans q2).trans q3).trans q4).trans q5).alloc _).trans q6)) _).set (Q.size (((((((Q.refl _).trans q2).trans q3).trans q4).trans q5).alloc _).trans q6)) _).set (Q.size (((((((Q.refl _).trans q2).trans q3).trans q4).trans q5).alloc _).trans q6)) _).trans q8).alloc _))).mono ?_
  rintro e w9 ⟨rfl, q9⟩
  go_wp2_with fail
  refine (S1.out _ _ _ (t3.out.on (((((((((((((((Q.refl _).trans q4).trans q5).alloc _).trans q6).alloc _).trans q7).set (Q.size (((((Q.refl _).trans q4).trans q5).alloc _).trans q6)) _).set (Q.size (((((Q.refl _).trans q4).trans q5).alloc _).trans q6)) _).set (Q.size (((((Q.refl _).trans q4).trans q5).alloc _).trans q6)) _).set (Q.size (((((Q.refl _).trans q4).trans q5).alloc _).trans q6)) _).trans q8).alloc _).trans q9).alloc _)) (t4.out.on ((((((((((((((Q.refl _).trans q5).alloc _).trans q6).alloc _).trans q7).set (Q.size ((((Q.refl _).trans q5).alloc _).trans q6)) _).set (Q.size ((((Q.refl _).trans q5).alloc _).trans q6)) _).set (Q.size ((((Q.refl _).trans q5).alloc _).trans q6)) _).set (Q.size ((((Q.refl _).trans q5).alloc _).trans q6)) _).trans q8).alloc _).trans q9).alloc _))).mono ?_
  rintro e w10 ⟨rfl, q10⟩
  obtain ⟨a50, a51, a52, a53⟩ := box_of (w := w5) (((((((((((((Q.refl _).trans q6).alloc _).trans q7).set (Q.size ((Q.refl _).trans q6)) _).set (Q.size ((Q.refl _).trans q6)) _).set (Q.size ((Q.refl _).trans q6)) _).set (Q.size ((Q.refl _).trans q6)) _).trans q8).alloc _).trans q9).alloc _).trans q10)
  obtain ⟨a60, a61, a62, a63⟩ := BS.out _ ((((((Q.refl _).trans q8).alloc _).trans q9).alloc _).trans q10)
  obtain ⟨a80, a81, a82, a83⟩ := box_of (w := w8) ((((Q.refl _).trans q9).alloc _).trans q10)
  obtain ⟨a90, a91, a92, a93⟩ := box_of (w := w9) ((Q.refl _).trans q10)
  go_wp2_with fail
  refine (S2.out _ _ _ (t1.out.on ((((((((((((((((((Q.refl _).trans q2).trans q3).trans q4).trans q5).alloc _).trans q6).alloc _).trans q7).set (Q.size (((((((Q.refl _).trans q2).trans q3).trans q4).trans q5).alloc _).trans q6)) _).set (Q.size (((((((Q.refl _).trans q2).trans q3).trans q4).trans q5).alloc _).trans q6)) _).set (Q.size (((((((Q.refl _).trans q2).trans q3).trans q4).trans q5).alloc _).trans q6)) _).set (Q.size (((((((Q.refl _).trans q2).trans q3).trans q4).trans q5).alloc _).trans q6)) _).trans q8).alloc _).trans q9).alloc _).trans q10)) (t2.out.on (((((((((((((((((Q.refl _).trans q3).trans q4).trans q5).alloc _).trans q6).alloc _).trans q7).set (Q.size ((((((Q.refl _).trans q3).trans q4).trans q5).alloc _).trans q6)) _).set (Q.size ((((((Q.refl _).trans q3).trans q4).trans q5).alloc _).trans q6)) _).set (Q.size ((((((Q.refl _).trans q3).trans q4).trans q5).alloc _).trans q6)) _).set (Q.size ((((((Q.refl _).trans q3).trans q4).trans q5).alloc _).trans q6)) _).trans q8).alloc _).trans q9).alloc _).trans q10))).mono ?_
  rintro e w11 ⟨rfl, q11⟩
  go_wp2_with fail
  refine (awake_any _).mono ?_
  rintro e w12 ⟨rfl, q12⟩
  clear FW FW2 DR DR2 S1 S2 GT GT2 CK FD FD2 t1 t2 t3 t4
  go_wp2
  go_ret
  exact ⟨rfl, (((((((((((((((((((((Q.refl _).trans q1).trans q2).trans q3).trans q4).trans q5).alloc _).trans q6).alloc _).trans q7).set (Q.size ((((((((Q.refl _).trans q1).trans q2).trans q3).trans q4).trans q5).alloc _).trans q6)) _).set (Q.size ((((((((Q.refl _).trans q1).trans q2).trans q3).trans q4).trans q5).alloc _).trans q6)) _).set (Q.size ((((((((Q.refl _).trans q1).trans q2).trans q3).trans q4).trans q5).alloc _).trans q6)) _).set (Q.size ((((((((Q.refl _).trans q1).trans q2).trans q3).trans q4).trans q5).alloc _).trans q6)) _).trans q8).alloc _).trans q9).alloc _).trans q10).trans q11).trans q12)⟩
theorem walk (l : List Ver) (v : Value) (id : Int) (w : World) (t0 : Vers w w.heap.size v l) (z0 : l.length ≤ maxLen) (w1 : (Lit.int .u64 id).wf = true) :
    Calls Try.prog 4 #[v, .int .u64 id] w fun e w' => e = .returned (.bool true) ∧ Q w w' := by
  obtain ⟨n, rfl, -⟩ := wfu64 w1
  by_cases h : okP (fewV l)
  · exact walk_ok l v n w t0 z0 h
  · exact walk_no l v n w t0 z0 h

set_option maxRecDepth 100000 in
theorem lifted (os : Os) (started : os.Started) (H : Type) (enc : TypeId × Value → H) :
    ReturnsInHanded {} Try.checked os 4 .any (Rows.chainGetsSpec.pre6 enc Try.prog Try.f4 Rows.chainGetsRow.domain false) (Rows.chainGetsSpec.post enc Try.prog Try.f4 false true false false) := by
  refine returnsInHanded_of_change (C := Try.checked) own started (by kernel_rfl) Try.func4
    (ChangeSpec.witness6 (enc := enc) (C := Try.checked) false ⟨#[], #[.slice none 0 0, .int .u64 0], []⟩ 8 (by kernel_rfl) (by kernel_rfl) (by kernel_rfl) (by kernel_rfl)) ?_
  intro W base args ds gs before hval0 hW hcnd _
  have hval : ∀ (j : Nat) t v, Try.f4.params[j]? = some t → args[j]? = some v → Value.okWide Try.prog W .any base t v := hval0
  have hW' := hW
  obtain ⟨p, q, hA0, hV, rfl, hfz, hnd⟩ := hW
  have hA : DataW.TrodAll enc Try.prog W 0 (fun _ => true) true Try.f4.params.toList args.toList ds p := hA0
  rw [Try.params4] at hA hval
  obtain ⟨v0, vs0, d0, ds0, p0, q0, hargs, rfl, rfl, h0, r0⟩ := trodAll_cons hA
  obtain ⟨v1, vs1, d1, ds1, p1, q1, rfl, rfl, rfl, h1, r1⟩ := trodAll_cons r0
  obtain ⟨rfl, rfl, rfl⟩ := trodAll_nil r1
  obtain rfl : args = #[v0, v1] := by cases args; simp_all
  obtain ⟨rfl, rfl⟩ := trodVars_none hV
  clear hA0 hval0
  simp only [List.append_nil] at hW'
  have hlt : ∀ x ∈ p0 ++ p1, x.block < W.heap.size := fun x hx => by simpa using hW'.lt x (by simpa using hx)
  obtain ⟨l0, t0, z0⟩ := open_vers (hval 0 22 v0 rfl rfl) h0
  obtain ⟨a1, rfl, -, -, w1⟩ := open_int Try.underlying23 (hval 1 23 v1 rfl rfl) h1
  refine (walk l0 v0 a1 W t0 z0 w1).mono fun e W' ⟨he, bel⟩ => ?_
  subst he
  refine ⟨_, rfl, _, _, _, [], _, [], hW', trodAll_mk1 (shut_bool Try.underlying4 _), (trodAll_cons_mk (Below.trod laid (by kernel_rfl) (of_decide_eq_true (by kernel_rfl)) h0 bel (fun x hx => hlt x (by simp [hx]))) (trodAll_cons_mk (Below.trod laid (by kernel_rfl) (of_decide_eq_true (by kernel_rfl)) h1 bel (fun x hx => hlt x (by simp [hx]))) trodAll_mk0)), rfl, Below.frame bel _, fun h => by cases h⟩

theorem over : Rows.chainGetsRow.holds Try.pinned (OpenSpec.ofChange Rows.chainGetsSpec) :=
  OpenClaim.holds_of_wide 4 Try.f4 rfl rfl rfl rfl rfl rfl rfl ⟨rfl, rfl, rfl, rfl, rfl⟩ rfl rfl rfl rfl rfl (by kernel_rfl) Try.func4 (by kernel_rfl)
    (of_decide_eq_true (by kernel_rfl)) (by unfold Func.isWrapper; first | (rw [if_pos (by decide +kernel)]; kernel_rfl) | (rw [if_neg (by decide +kernel)]; exact ⟨rfl, rfl⟩))
    (fun os started H enc _ => lifted os started H enc)

theorem proved : Rows.ChainGetsSaid := over
#print axioms proved
end Go.Proofs.Ytflfhigldkdlmaa.chainGets
