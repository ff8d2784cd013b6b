/-
  Proved: whatever bucket and acts BucketTurns is called with, it returns true and leaves what it was given as it was. No condition.
-/
import Derived.Test.YtjjlbbfhmpbneaaGreatJz
import Derived.Test.YtjjlbbfhmpbneaaGreatJn
namespace Go.Proofs.YtjjlbbfhmpbneaaGreat.bucketTurns
set_option maxRecDepth 100000
open Go.ChangeShapes Go.WideShapes Go.ChangeAt Go.RowKit Go.Shelf
open Go.ChangeMaps (open_string shut_string)
set_option linter.unusedVariables false
set_option linter.unusedSimpArgs false

set_option maxHeartbeats 32000000 in
set_option maxRecDepth 100000 in
theorem walk (b : Bkt) (lv uv : Value) (x : Actn) (px : Value) (y : Actn) (py : Value) (w : World) (hin : InB w b lv uv) (hx : okA9 x) (hpx : Pces w w.heap.size px x.P) (hy : okA9 y) (hpy : Pces w w.heap.size py y.P) :
    Calls Tryz.prog 8 #[bkt b lv uv, actV x px, actV y py] w fun e w' => e = .returned (.bool true) ∧ Q w w' := by
  obtain ⟨hv, hn, hl, hu, -, -, -⟩ := hin
  obtain ⟨A1, c1, rfl⟩ := hv.1.form
  obtain ⟨A2, c2, rfl⟩ := hv.2.form
  obtain ⟨A3, c3, rfl⟩ := hpx.form
  obtain ⟨A4, c4, rfl⟩ := hpy.form
  have q0 : Q w (((w.alloc (.cells (bcl b (.slice A1 b.L.length c1) (.slice A2 b.U.length c2)) 26)).alloc (.cells (acl x (.slice A3 x.P.length c3)) 29)).alloc (.cells (acl y (.slice A4 y.P.length c4)) 29)) := (((Q.refl w).alloc _).alloc _).alloc _
  have hb3 : BoxB (((w.alloc (.cells (bcl b (.slice A1 b.L.length c1) (.slice A2 b.U.length c2)) 26)).alloc (.cells (acl x (.slice A3 x.P.length c3)) 29)).alloc (.cells (acl y (.slice A4 y.P.length c4)) 29)) w.heap.size b := ((BoxB.new hv).on ((Q.refl _).alloc _)).on ((Q.refl _).alloc _)
  have hx3 : BoxA (((w.alloc (.cells (bcl b (.slice A1 b.L.length c1) (.slice A2 b.U.length c2)) 26)).alloc (.cells (acl x (.slice A3 x.P.length c3)) 29)).alloc (.cells (acl y (.slice A4 y.P.length c4)) 29)) (w.heap.size + 1) x := by
    have h := (BoxA.new (w := w.alloc (.cells (bcl b (.slice A1 b.L.length c1) (.slice A2 b.U.length c2)) 26)) (hpx.on ((Q.refl w).alloc _))).on ((Q.refl _).alloc (.cells (acl y (.slice A4 y.P.length c4)) 29))
    simpa only [World.size_alloc] using h
  have hy3 : BoxA (((w.alloc (.cells (bcl b (.slice A1 b.L.length c1) (.slice A2 b.U.length c2)) 26)).alloc (.cells (acl x (.slice A3 x.P.length c3)) 29)).alloc (.cells (acl y (.slice A4 y.P.length c4)) 29)) (w.heap.size + 2) y := by
    have h := BoxA.new (w := (w.alloc (.cells (bcl b (.slice A1 b.L.length c1) (.slice A2 b.U.length c2)) 26)).alloc (.cells (acl x (.slice A3 x.P.length c3)) 29)) (hpy.on (((Q.refl w).alloc _).alloc _))
    simpa only [World.size_alloc] using h
  have Z1 : Hid (Bx (((w.alloc (.cells (bcl b (.slice A1 b.L.length c1) (.slice A2 b.U.length c2)) 26)).alloc (.cells (acl x (.slice A3 x.P.length c3)) 29)).alloc (.cells (acl y (.slice A4 y.P.length c4)) 29)) w.heap.size 26 (bcl b (.slice A1 b.L.length c1) (.slice A2 b.U.length c2))) := Lib.hid (((Bx.new _ _ _).on ((Q.refl _).alloc _)).on ((Q.refl _).alloc _))
  have Z2 : Hid (Bx (((w.alloc (.cells (bcl b (.slice A1 b.L.length c1) (.slice A2 b.U.length c2)) 26)).alloc (.cells (acl x (.slice A3 x.P.length c3)) 29)).alloc (.cells (acl y (.slice A4 y.P.length c4)) 29)) (w.heap.size + 1) 29 (acl x (.slice A3 x.P.length c3))) := Lib.hid (by
    have h := (Bx.new (w.alloc (.cells (bcl b (.slice A1 b.L.length c1) (.slice A2 b.U.length c2)) 26)) 29 (acl x (.slice A3 x.P.length c3))).on ((Q.refl _).alloc (.cells (acl y (.slice A4 y.P.length c4)) 29))
    simpa only [World.size_alloc] using h)
  have Z3 : Hid (Bx (((w.alloc (.cells (bcl b (.slice A1 b.L.length c1) (.slice A2 b.U.length c2)) 26)).alloc (.cells (acl x (.slice A3 x.P.length c3)) 29)).alloc (.cells (acl y (.slice A4 y.P.length c4)) 29)) (w.heap.size + 2) 29 (acl y (.slice A4 y.P.length c4))) := Lib.hid (by
    have h := Bx.new ((w.alloc (.cells (bcl b (.slice A1 b.L.length c1) (.slice A2 b.U.length c2)) 26)).alloc (.cells (acl x (.slice A3 x.P.length c3)) 29)) 29 (acl y (.slice A4 y.P.length c4))
    simpa only [World.size_alloc] using h)
  have K0 : Hid (In3 w (((w.alloc (.cells (bcl b (.slice A1 b.L.length c1) (.slice A2 b.U.length c2)) 26)).alloc (.cells (acl x (.slice A3 x.P.length c3)) 29)).alloc (.cells (acl y (.slice A4 y.P.length c4)) 29)) b x y) := Lib.hid ⟨hb3, hx3, hy3, q0⟩
  obtain ⟨x0, hx0⟩ : ∃ z, z = (((w.alloc (.cells (bcl b (.slice A1 b.L.length c1) (.slice A2 b.U.length c2)) 26)).alloc (.cells (acl x (.slice A3 x.P.length c3)) 29)).alloc (.cells (acl y (.slice A4 y.P.length c4)) 29)) := ⟨_, rfl⟩
  have FB := Lib.hid fun d (q : Q w d) => fewB_any b (.slice A1 b.L.length c1) (.slice A2 b.U.length c2) d hn hl hu (hv.on q)
  have FX := Lib.hid fun d (q : Q w d) => cutA_any x (.slice A3 x.P.length c3) d hx (hpx.on q)
  have FY := Lib.hid fun d (q : Q w d) => cutA_any y (.slice A4 y.P.length c4) d hy (hpy.on q)
  obtain ⟨hx5, hx6, -, hx7⟩ := cutA_ok hx
  obtain ⟨hy5, hy6, -, hy7⟩ := cutA_ok hy
  obtain ⟨sn, sE, sU⟩ := fewB_small b
  obtain ⟨B, hB⟩ : ∃ B, B = fewB b := ⟨_, rfl⟩
  obtain ⟨X, hX⟩ : ∃ X, X = cutA x := ⟨_, rfl⟩
  obtain ⟨Y, hY⟩ : ∃ Y, Y = cutA y := ⟨_, rfl⟩
  rw [← hB] at FB sn sE sU
  rw [← hX] at FX hx5 hx6 hx7
  rw [← hY] at FY hy5 hy6 hy7
  simp only [bkt] at FB
  simp only [actV, acl] at FX FY
  rw [← hx0] at K0 q0 Z1 Z2 Z3
  clear hn hl hu hv hB hX hY hx hy hpx hpy hb3 hx3 hy3
  have AW := Lib.hid fun x => awakeB_any x
  have HS := Lib.hid (And.intro sn (And.intro sE sU))
  have HX := Lib.hid (And.intro hx5 (And.intro hx6 hx7))
  have HY := Lib.hid (And.intro hy5 (And.intro hy6 hy7))
  clear sn sE sU hx5 hx6 hx7 hy5 hy6 hy7
  rw [bkt, actV, actV, acl, acl]
  go_enter Tryz.func8, Tryz.ntmps8
  go_upto_region 1 with fail
  simp only [bcl, acl] at hx0
  rw [← hx0]
  clear hx0
  have KD : Hid (∀ d, Q x0 d → (Bx d w.heap.size 26 (bcl b (.slice A1 b.L.length c1) (.slice A2 b.U.length c2)) ∧ Bx d (w.heap.size + 1) 29 (acl x (.slice A3 x.P.length c3)) ∧ Bx d (w.heap.size + 2) 29 (acl y (.slice A4 y.P.length c4)) ∧ Q x0 d)) := Lib.hid fun d q => ⟨Z1.out.on q, Z2.out.on q, Z3.out.on q, q⟩
  have q9 := (Q.refl x0).drew
  refine till_begin (F := fun d => Bx d w.heap.size 26 (bcl b (.slice A1 b.L.length c1) (.slice A2 b.U.length c2)) ∧ Bx d (w.heap.size + 1) 29 (acl x (.slice A3 x.P.length c3)) ∧ Bx d (w.heap.size + 2) 29 (acl y (.slice A4 y.P.length c4)) ∧ Q x0 d) (st := 6) (by kernel_rfl) (KD.out _ q9) (fun hTill => ?_)
  refine till_take (i := 0) (o := _) (v := ?_) rfl (by kernel_rfl) (by kernel_rfl) (by kernel_rfl) (by kernel_rfl) (by rfl) (fun _ _ _ h => h) (Or.inl ⟨by rfl, ?_⟩) (by assumption) ?_
  rotate_left
  · (intro wx hSw; obtain ⟨hz0, hz1, hz2, hz3, hz4⟩ := bx_bkt hSw.1; go_simp; (try with_reducible rfl))
  (try simp only [Act.put, PS])
  refine till_takeR (i := 2) (o := _) (v := ?_) rfl (by kernel_rfl) (by kernel_rfl) (by kernel_rfl) (by kernel_rfl) (by kernel_rfl) (by rfl) (fun _ _ _ h => h) (Or.inl ⟨by rfl, ?_⟩) (by assumption) ?_
  rotate_left
  · (intro wx hSw; obtain ⟨⟨hz0, hz1, hz2, hz3, hz4, hz5, hz6⟩, -⟩ := bx_act hSw.2.1; go_simp; (try with_reducible rfl))
  (try simp only [Act.put, PS])
  refine till_takeR (i := 4) (o := _) (v := ?_) rfl (by kernel_rfl) (by kernel_rfl) (by kernel_rfl) (by kernel_rfl) (by kernel_rfl) (by rfl) (fun _ _ _ h => h) (Or.inl ⟨by rfl, ?_⟩) (by assumption) ?_
  rotate_left
  · (intro wx hSw; obtain ⟨⟨hz0, hz1, hz2, hz3, hz4, hz5, hz6⟩, -⟩ := bx_act hSw.2.2.1; go_simp; (try with_reducible rfl))
  (try simp only [Act.put, PS])
  refine till_next (i := 1) (o := _) (by kernel_rfl) rfl (fun K hK => ?_)
  go_simp
  go_at_call 10
  refine (FB.out _ (q0.trans q9)).mono ?_
  rintro e w1 ⟨A5, c5, A6, c6, rfl, v1, q1⟩
  have V1 := Lib.hid v1
  clear v1
  refine hK.out _ _ (KD.out _ (q9.trans q1)) (fun hTill => ?_)
  clear hK K
  (try simp only [Act.put, PS])
  refine till_next (i := 3) (o := _) (by kernel_rfl) rfl (fun K hK => ?_)
  go_simp
  go_at_call 11
  refine (FX.out _ (q0.trans (q9.trans q1))).mono ?_
  rintro e w2 ⟨A7, c7, rfl, v2, q2⟩
  have V2 := Lib.hid v2
  clear v2
  refine hK.out _ _ (KD.out _ ((q9.trans q1).trans q2)) (fun hTill => ?_)
  clear hK K
  (try simp only [Act.put, PS])
  refine till_next (i := 5) (o := _) (by kernel_rfl) rfl (fun K hK => ?_)
  go_simp
  go_at_call 11
  refine (FY.out _ (q0.trans ((q9.trans q1).trans q2))).mono ?_
  rintro e w3 ⟨A8, c8, rfl, v3, q3⟩
  have V3 := Lib.hid v3
  clear v3
  refine hK.out _ _ (KD.out _ (((q9.trans q1).trans q2).trans q3)) (fun hTill => ?_)
  clear hK K
  (try simp only [Act.put, PS])
  have K3 := Lib.hid (K0.out.on (((q9.trans q1).trans q2).trans q3))
  clear K0 Z1 Z2 Z3 KD FB FX FY
  have U1 := Lib.hid (V1.out.on (q2.trans q3))
  have U2 := Lib.hid (V2.out.on q3)
  clear V1 V2
  obtain ⟨g1, g2, g3, g4, hbb, -⟩ := K3.out.1
  obtain ⟨k0, k1, k2, k3, k4⟩ := bx_bkt hbb
  obtain ⟨f0, f1, f2, f3, f4⟩ := bkt_frozen hbb
  obtain ⟨nB, gB⟩ := K3.out.1.store U1.out
  have cB := K3.out.1.calm
  have a1 := K3.out.2.1.kp cB gB (by omega)
  have a2 := K3.out.2.2.1.kp cB gB (by omega)
  have u2 := U2.out.kp cB gB
  have u3 := V3.out.kp cB gB
  have qB := gB.q K3.out.2.2.2 (Nat.le_refl _)
  have K4 := Lib.hid (And.intro (show In3 w _ B x y from ⟨nB, a1, a2, qB⟩) (And.intro u2 u3))
  clear nB gB cB a1 a2 u2 u3 qB hbb K3 U1 U2 V3
  refine till_last (i := 6) (o := _) (by kernel_rfl) rfl (by rfl) (fun K hK => ?_)
  go_simp
  refine hK.out _ _ ?_
  clear hK K
  (try simp only [Act.put, PS])
  obtain ⟨x4, hx4⟩ : ∃ z, z = (((((w3.setCell ⟨w.heap.size, 0, none⟩ (.string B.name)).setCell ⟨w.heap.size, 1, none⟩ (.int .i64 B.st)).setCell ⟨w.heap.size, 2, none⟩ (.slice A5 B.L.length c5)).setCell ⟨w.heap.size, 3, none⟩ (.slice A6 B.U.length c6)).setCell ⟨w.heap.size, 4, none⟩ (.int .u64 (B.last : Nat))) := ⟨_, rfl⟩
  rw [← hx4] at K4 ⊢
  clear hx4 k0 k1 k2 k3 k4 f0 f1 f2 f3 f4
  obtain ⟨g5, g6, hbb, -⟩ := K4.out.1.2.1
  obtain ⟨⟨k0, k1, k2, k3, k4, k5, k6⟩, f0, f1, f2, f3, f4, f5, f6⟩ := bx_act hbb
  obtain ⟨nA, gA⟩ := K4.out.1.2.1.store K4.out.2.1
  have cA := K4.out.1.2.1.calm
  have b1 := K4.out.1.1.kp cA gA (by omega)
  have a2 := K4.out.1.2.2.1.kp cA gA (by omega)
  have u3 := K4.out.2.2.kp cA gA
  have qA := gA.q K4.out.1.2.2.2 (by omega)
  have K5 := Lib.hid (And.intro (show In3 w _ B X y from ⟨b1, nA, a2, qA⟩) u3)
  clear nA gA cA b1 a2 u3 qA hbb K4
  refine till_last (i := 7) (o := _) (by kernel_rfl) rfl (by rfl) (fun K hK => ?_)
  go_simp
  refine hK.out _ _ ?_
  clear hK K
  (try simp only [Act.put, PS])
  obtain ⟨x5, hx5⟩ : ∃ z, z = (((((((x4.setCell ⟨w.heap.size + 1, 0, none⟩ (.int .u8 (X.kind : Nat))).setCell ⟨w.heap.size + 1, 1, none⟩ (.string X.key)).setCell ⟨w.heap.size + 1, 2, none⟩ (.string X.data)).setCell ⟨w.heap.size + 1, 3, none⟩ (.int .u64 (X.id : Nat))).setCell ⟨w.heap.size + 1, 4, none⟩ (.int .i64 X.n)).setCell ⟨w.heap.size + 1, 5, none⟩ (.int .i64 X.tm)).setCell ⟨w.heap.size + 1, 6, none⟩ (.slice A7 X.P.length c7)) := ⟨_, rfl⟩
  rw [← hx5] at K5 ⊢
  clear hx5 k0 k1 k2 k3 k4 k5 k6 f0 f1 f2 f3 f4 f5 f6
  obtain ⟨g7, g8, hbb, -⟩ := K5.out.1.2.2.1
  obtain ⟨⟨k0, k1, k2, k3, k4, k5, k6⟩, f0, f1, f2, f3, f4, f5, f6⟩ := bx_act hbb
  obtain ⟨nA, gA⟩ := K5.out.1.2.2.1.store K5.out.2
  have cA := K5.out.1.2.2.1.calm
  have b1 := K5.out.1.1.kp cA gA (by omega)
  have a2 := K5.out.1.2.1.kp cA gA (by omega)
  have qA := gA.q K5.out.1.2.2.2 (by omega)
  have K6 : Hid (In3 w _ B X Y) := Lib.hid ⟨b1, a2, nA, qA⟩
  clear nA gA cA b1 a2 qA hbb K5
  refine till_last (i := 8) (o := _) (by kernel_rfl) rfl (by rfl) (fun K hK => ?_)
  go_simp
  refine hK.out _ _ ?_
  clear hK K
  (try simp only [Act.put, PS])
  obtain ⟨x6, hx6⟩ : ∃ z, z = (((((((x5.setCell ⟨w.heap.size + 2, 0, none⟩ (.int .u8 (Y.kind : Nat))).setCell ⟨w.heap.size + 2, 1, none⟩ (.string Y.key)).setCell ⟨w.heap.size + 2, 2, none⟩ (.string Y.data)).setCell ⟨w.heap.size + 2, 3, none⟩ (.int .u64 (Y.id : Nat))).setCell ⟨w.heap.size + 2, 4, none⟩ (.int .i64 Y.n)).setCell ⟨w.heap.size + 2, 5, none⟩ (.int .i64 Y.tm)).setCell ⟨w.heap.size + 2, 6, none⟩ (.slice A8 Y.P.length c8)) := ⟨_, rfl⟩
  rw [← hx6] at K6 ⊢
  clear hx6 k0 k1 k2 k3 k4 k5 k6 f0 f1 f2 f3 f4 f5 f6
  refine till_done (by kernel_rfl) ?_ _
  clear q0 q9 q1 q2 q3
  obtain ⟨g1, g2, hbx, -⟩ := K6.out.2.1
  obtain ⟨⟨k0, k1, -, -, -, -, -⟩, -⟩ := bx_act hbx
  obtain ⟨g3, g4, hby, -⟩ := K6.out.2.2.1
  obtain ⟨⟨m0, m1, -, -, -, -, -⟩, -⟩ := bx_act hby
  obtain ⟨kx, hkx⟩ : ∃ kd : Int, kd = (X.kind : Int) := ⟨_, rfl⟩
  obtain ⟨ky, hky⟩ : ∃ kd : Int, kd = (Y.kind : Int) := ⟨_, rfl⟩
  rw [← hkx] at k0
  rw [← hky] at m0
  have TX0 : kx.tmod 9 = ((X.kind % 9 : Nat) : Int) := by rw [hkx, Int.tmod_eq_emod_of_nonneg (by omega)]; omega
  have TY0 : ky.tmod 9 = ((Y.kind % 9 : Nat) : Int) := by rw [hky, Int.tmod_eq_emod_of_nonneg (by omega)]; omega
  have TX := Lib.hid TX0
  have TY := Lib.hid TY0
  clear TX0 TY0 hkx hky hbx hby g1 g2 g3 g4
  by_cases hk : X.key = Y.key
  · have hk2 : (X.key.toList == Y.key.toList) = true := by rw [eq_texts]; simpa using hk
    clear hk
    go_wp2_with fail
    refine (AW.out _).mono ?_
    rintro e w5 ⟨rfl, q5⟩
    have nq := K6.out.2.2.2.trans q5
    go_wp2
    go_ret
    exact ⟨rfl, nq⟩
  by_cases p1 : (4 : Int) < kx.tmod 9
  · have hk2 : (X.key.toList == Y.key.toList) = false := by rw [eq_texts]; simpa using hk
    clear hk
    go_wp2_with fail
    refine (AW.out _).mono ?_
    rintro e w5 ⟨rfl, q5⟩
    have nq := K6.out.2.2.2.trans q5
    go_wp2
    go_ret
    exact ⟨rfl, nq⟩
  by_cases p2 : (4 : Int) < ky.tmod 9
  · have hk2 : (X.key.toList == Y.key.toList) = false := by rw [eq_texts]; simpa using hk
    clear hk
    go_wp2_with fail
    refine (AW.out _).mono ?_
    rintro e w5 ⟨rfl, q5⟩
    have nq := K6.out.2.2.2.trans q5
    go_wp2
    go_ret
    exact ⟨rfl, nq⟩
  by_cases p3 : kx.tmod 9 = 4
  · have hk2 : (X.key.toList == Y.key.toList) = false := by rw [eq_texts]; simpa using hk
    have p3' : (kx.tmod 9 == 4) = true := by rw [p3]; rfl
    clear hk p3
    go_wp2_with fail
    refine (AW.out _).mono ?_
    rintro e w5 ⟨rfl, q5⟩
    have nq := K6.out.2.2.2.trans q5
    go_wp2
    go_ret
    exact ⟨rfl, nq⟩
  by_cases p4 : ky.tmod 9 = 4
  · have hk2 : (X.key.toList == Y.key.toList) = false := by rw [eq_texts]; simpa using hk
    have p3' : (kx.tmod 9 == 4) = false := by simpa using p3
    have p4' : (ky.tmod 9 == 4) = true := by rw [p4]; rfl
    clear hk p3 p4
    go_wp2_with fail
    refine (AW.out _).mono ?_
    rintro e w5 ⟨rfl, q5⟩
    have nq := K6.out.2.2.2.trans q5
    go_wp2
    go_ret
    exact ⟨rfl, nq⟩
  have hk2 : (X.key.toList == Y.key.toList) = false := by rw [eq_texts]; simpa using hk
  have p3' : (kx.tmod 9 == 4) = false := by simpa using p3
  have p4' : (ky.tmod 9 == 4) = false := by simpa using p4
  have K3x : X.kind % 9 ≤ 3 := by have := TX.out; omega
  have K3y : Y.kind % 9 ≤ 3 := by have := TY.out; omega
  have HK := Lib.hid hk
  clear hk p3 p4
  go_upto_region 4 with fail
  clear p1 p2 p3' p4' hk2 k0 k1 m0 m1 TX TY
  -- what the four come to
  obtain ⟨hx5, hx6, hx7⟩ := HX.out
  obtain ⟨hy5, hy6, hy7⟩ := HY.out
  obtain ⟨d1, n1, t1, s1, e1, F1⟩ := do_ex B K3x
  obtain ⟨d2, n2, t2, s2, e2, F2⟩ := do_ex B K3y
  obtain ⟨d3, n3, t3, s3, e3, F3⟩ := do_ex d1 K3y
  obtain ⟨d4, n4, t4, s4, e4, F4⟩ := do_ex d2 K3x
  have sm1 := do_small K3x F1 HS.out
  have sm2 := do_small K3y F2 HS.out
  have sm3 := do_small K3y F3 sm1
  have sm4 := do_small K3x F4 sm2
  have HSM := Lib.hid (And.intro sm3 sm4)
  have HKS := Lib.hid hx6
  have DO1 : Hid (∀ z A c A' c' Ax cx, BktV z B (.slice A B.L.length c) (.slice A' B.U.length c') → Pces z z.heap.size (.slice Ax X.P.length cx) X.P → Calls Tryz.prog 12 #[bkt B (.slice A B.L.length c) (.slice A' B.U.length c'), actV X (.slice Ax X.P.length cx)] z fun e w' => ∃ A c A' c', e = .returned (didV d1 (.slice A d1.L.length c) (.slice A' d1.U.length c') (n1 + t1) s1 e1) ∧ BktV w' d1 (.slice A d1.L.length c) (.slice A' d1.U.length c') ∧ Q z w') :=
    Lib.hid fun z A c A' c' Ax cx hv hp => do_any B _ _ X _ z d1 n1 t1 s1 e1 F1 hx5 (by omega) (by omega) HS.out.1 HS.out.2.1 HS.out.2.2 hv hp
  obtain ⟨i1, hi1⟩ : ∃ i, i = n1 + t1 := ⟨_, rfl⟩
  rw [← hi1] at DO1
  simp only [bkt, actV, acl, didV, didC] at DO1
  clear hi1
  have DO2 : Hid (∀ z A c A' c' Ax cx, BktV z B (.slice A B.L.length c) (.slice A' B.U.length c') → Pces z z.heap.size (.slice Ax Y.P.length cx) Y.P → Calls Tryz.prog 12 #[bkt B (.slice A B.L.length c) (.slice A' B.U.length c'), actV Y (.slice Ax Y.P.length cx)] z fun e w' => ∃ A c A' c', e = .returned (didV d2 (.slice A d2.L.length c) (.slice A' d2.U.length c') (n2 + t2) s2 e2) ∧ BktV w' d2 (.slice A d2.L.length c) (.slice A' d2.U.length c') ∧ Q z w') :=
    Lib.hid fun z A c A' c' Ax cx hv hp => do_any B _ _ Y _ z d2 n2 t2 s2 e2 F2 hy5 (by omega) (by omega) HS.out.1 HS.out.2.1 HS.out.2.2 hv hp
  obtain ⟨i2, hi2⟩ : ∃ i, i = n2 + t2 := ⟨_, rfl⟩
  rw [← hi2] at DO2
  simp only [bkt, actV, acl, didV, didC] at DO2
  clear hi2
  have DO3 : Hid (∀ z A c A' c' Ax cx, BktV z d1 (.slice A d1.L.length c) (.slice A' d1.U.length c') → Pces z z.heap.size (.slice Ax Y.P.length cx) Y.P → Calls Tryz.prog 12 #[bkt d1 (.slice A d1.L.length c) (.slice A' d1.U.length c'), actV Y (.slice Ax Y.P.length cx)] z fun e w' => ∃ A c A' c', e = .returned (didV d3 (.slice A d3.L.length c) (.slice A' d3.U.length c') (n3 + t3) s3 e3) ∧ BktV w' d3 (.slice A d3.L.length c) (.slice A' d3.U.length c') ∧ Q z w') :=
    Lib.hid fun z A c A' c' Ax cx hv hp => do_any d1 _ _ Y _ z d3 n3 t3 s3 e3 F3 hy5 (by omega) (by omega) sm1.1 sm1.2.1 sm1.2.2 hv hp
  obtain ⟨i3, hi3⟩ : ∃ i, i = n3 + t3 := ⟨_, rfl⟩
  rw [← hi3] at DO3
  simp only [bkt, actV, acl, didV, didC] at DO3
  clear hi3
  have DO4 : Hid (∀ z A c A' c' Ax cx, BktV z d2 (.slice A d2.L.length c) (.slice A' d2.U.length c') → Pces z z.heap.size (.slice Ax X.P.length cx) X.P → Calls Tryz.prog 12 #[bkt d2 (.slice A d2.L.length c) (.slice A' d2.U.length c'), actV X (.slice Ax X.P.length cx)] z fun e w' => ∃ A c A' c', e = .returned (didV d4 (.slice A d4.L.length c) (.slice A' d4.U.length c') (n4 + t4) s4 e4) ∧ BktV w' d4 (.slice A d4.L.length c) (.slice A' d4.U.length c') ∧ Q z w') :=
    Lib.hid fun z A c A' c' Ax cx hv hp => do_any d2 _ _ X _ z d4 n4 t4 s4 e4 F4 hx5 (by omega) (by omega) sm2.1 sm2.2.1 sm2.2.2 hv hp
  obtain ⟨i4, hi4⟩ : ∃ i, i = n4 + t4 := ⟨_, rfl⟩
  rw [← hi4] at DO4
  simp only [bkt, actV, acl, didV, didC] at DO4
  clear hi4
  have HF : Hid (e1 = 0 → e2 = 0 → e3 = 0 → e4 = 0 → okB d3 ∧ okB d4 ∧ hasO 1 60 ko X.key = true ∧ simV (getE d3.L X.key) (getE d4.L X.key) ∧ d3.L.length = d4.L.length ∧ (B.st ≠ 1 → d3.last = d4.last)) := Lib.hid fun z1 z2 z3 z4 => by
    subst z1 z2 z3 z4
    exact turns K3x K3y HK.out F1 F2 F3 F4
  clear hx5 hx6 hx7 hy5 hy6 hy7 F1 F2 F3 F4 sm1 sm2 sm3 sm4 K3x K3y HK HX HY
  obtain ⟨A5, c5, A6, c6, A7, c7, A8, c8, S0, C0⟩ := K6.out.parts
  have I3 := Lib.hid (S0.on (Q.refl x6).drew)
  have CC := Lib.hid (C0.on (Q.refl x6).drew)
  clear S0 C0 K6
  go_cut [7, 8] from 51 to 56 (fun V7 V8 wx => ∃ p7 p8, V7 = .pointer (some ⟨p7, 0, none⟩) ∧ V8 = .pointer (some ⟨p8, 0, none⟩) ∧ In5 w wx B X Y p7 d1 i1 s1 e1 p8 d2 i2 s2 e2)
  case first =>
    refine wp_region_held_drew (S := fun z => S3 w z B X Y (.slice A5 B.L.length c5) (.slice A6 B.U.length c6) (.slice A7 X.P.length c7) (.slice A8 Y.P.length c8)) (by kernel_rfl) I3.out (fun hHeld => ?_)
    obtain ⟨z0, hz0⟩ : ∃ z, z = x6.drew := ⟨_, rfl⟩
    rw [← hz0] at I3 CC ⊢
    clear hz0
    refine wpAnyH_take (i := 0) (oi := _) (v := ?_) rfl (by kernel_rfl) (by kernel_rfl) (by kernel_rfl) (fun _ _ _ h => h) (Or.inl ⟨by rfl, ?_⟩) (by first | assumption | exact I3.out) ?_
    rotate_left
    · (intro wx hSw; obtain ⟨hz0, hz1, hz2, hz3, hz4⟩ := bx_bkt hSw.1; go_simp; (try with_reducible rfl))
    (try simp only [Act.put, PS])
    refine wpAnyH_take (i := 1) (oi := _) (v := ?_) rfl (by kernel_rfl) (by kernel_rfl) (by kernel_rfl) (fun _ _ _ h => h) (Or.inl ⟨by rfl, ?_⟩) (by first | assumption | exact I3.out) ?_
    rotate_left
    · (intro wx hSw; obtain ⟨⟨hz0, hz1, hz2, hz3, hz4, hz5, hz6⟩, -⟩ := bx_act hSw.2.1; go_simp; (try with_reducible rfl))
    (try simp only [Act.put, PS])
    refine wpAnyH_take (i := 3) (oi := _) (v := ?_) rfl (by kernel_rfl) (by kernel_rfl) (by kernel_rfl) (fun _ _ _ h => h) (Or.inl ⟨by rfl, ?_⟩) (by first | assumption | exact I3.out) ?_
    rotate_left
    · (intro wx hSw; obtain ⟨hz0, hz1, hz2, hz3, hz4⟩ := bx_bkt hSw.1; go_simp; (try with_reducible rfl))
    (try simp only [Act.put, PS])
    refine wpAnyH_take (i := 4) (oi := _) (v := ?_) rfl (by kernel_rfl) (by kernel_rfl) (by kernel_rfl) (fun _ _ _ h => h) (Or.inl ⟨by rfl, ?_⟩) (by first | assumption | exact I3.out) ?_
    rotate_left
    · (intro wx hSw; obtain ⟨⟨hz0, hz1, hz2, hz3, hz4, hz5, hz6⟩, -⟩ := bx_act hSw.2.2.1; go_simp; (try with_reducible rfl))
    (try simp only [Act.put, PS])
    refine wpAnyH_ready (rs := [2, 6, 7]) (by kernel_rfl) (by simp) ?_
    refine (AllReadyH.cons (o := _) rfl (fun K hK => ?_) (AllReadyH.cons (o := _) rfl (fun K hK => ?_) (AllReadyH.cons (o := _) rfl (fun K hK => ?_) AllReadyH.nil)))
    · go_simp
      go_at_call 12
      refine (DO1.out _ _ _ _ _ _ _ CC.out.1 CC.out.2.1).mono ?_
      rintro e z1 ⟨E1a, e1a, E1b, e1b, rfl, v, q⟩
      have I3 := Lib.hid (I3.out.on q)
      have CC := Lib.hid (CC.out.on q)
      have V1 := Lib.hid v
      clear v q
      refine hK.out _ _ I3.out (fun hHeld => ?_)
      clear hK K
      (try simp only [Act.put, PS])
      refine wpAnyH_ready (rs := [5, 6, 7]) (by kernel_rfl) (by simp) ?_
      refine (AllReadyH.cons (o := _) rfl (fun K hK => ?_) (AllReadyH.cons (o := _) rfl (fun K hK => ?_) (AllReadyH.cons (o := _) rfl (fun K hK => ?_) AllReadyH.nil)))
      · go_simp
        go_at_call 12
        refine (DO2.out _ _ _ _ _ _ _ CC.out.1 CC.out.2.2).mono ?_
        rintro e z2 ⟨E2a, e2a, E2b, e2b, rfl, v, q⟩
        have I3 := Lib.hid (I3.out.on q)
        have CC := Lib.hid (CC.out.on q)
        have V1 := Lib.hid (V1.out.on q)
        have V2 := Lib.hid v
        clear v q
        refine hK.out _ _ I3.out (fun hHeld => ?_)
        clear hK K
        (try simp only [Act.put, PS])
        refine wpAnyH_ready (rs := [6, 7]) (by kernel_rfl) (by simp) ?_
        refine (AllReadyH.cons (o := _) rfl (fun K hK => ?_) (AllReadyH.cons (o := _) rfl (fun K hK => ?_) AllReadyH.nil))
        · have Z7 := Lib.hid (I3.out.newD)
          have q := (Q.refl z2).alloc (.cells zDid 34)
          have I3 := Lib.hid (I3.out.on q)
          have CC := Lib.hid (CC.out.on q)
          have V1 := Lib.hid (V1.out.on q)
          have V2 := Lib.hid (V2.out.on q)
          clear q
          go_simp
          obtain ⟨z3, hw⟩ : ∃ z, z = z2.alloc (.cells zDid 34) := ⟨_, rfl⟩
          rw [← hw] at I3 CC V1 V2 Z7
          simp only [zDid] at hw
          rw [← hw]
          obtain ⟨p7, hp⟩ : ∃ p, p = z2.heap.size := ⟨_, rfl⟩
          rw [← hp] at Z7 ⊢
          clear hw hp
          refine hK.out _ _ I3.out (fun hHeld => ?_)
          clear hK K
          (try simp only [Act.put, PS])
          refine wpAnyH_ready (rs := [7]) (by kernel_rfl) (by simp) ?_
          refine (AllReadyH.cons (o := _) rfl (fun K hK => ?_) AllReadyH.nil)
          have Z8 := Lib.hid (I3.out.newD)
          have NE : Hid (p7 ≠ z3.heap.size) := Lib.hid (Nat.ne_of_lt Z7.out.1.lt)
          have q := (Q.refl z3).alloc (.cells zDid 34)
          have I3 := Lib.hid (I3.out.on q)
          have CC := Lib.hid (CC.out.on q)
          have V1 := Lib.hid (V1.out.on q)
          have V2 := Lib.hid (V2.out.on q)
          have Z7 := Lib.hid (Z7.out.on q)
          clear q
          go_simp
          obtain ⟨z4, hw⟩ : ∃ z, z = z3.alloc (.cells zDid 34) := ⟨_, rfl⟩
          rw [← hw] at I3 CC V1 V2 Z7 Z8
          simp only [zDid] at hw
          rw [← hw]
          obtain ⟨p8, hp⟩ : ∃ p, p = z3.heap.size := ⟨_, rfl⟩
          rw [← hp] at Z8 NE ⊢
          clear hw hp
          refine hK.out _ _ I3.out (fun hHeld => ?_)
          clear hK K
          (try simp only [Act.put, PS])
          refine wpAnyH_ready (rs := [8]) (by kernel_rfl) (by simp) ?_
          refine (AllReadyH.cons (o := _) rfl (fun K hK => ?_) AllReadyH.nil)
          obtain ⟨⟨r0, r1, r2, r3, r4, r5, r6, r7⟩, f0, f1, f2, f3, f4, f5, f6, f7⟩ := bx_did (show Bx _ _ _ #[.string ⟨#[]⟩, .int .i64 0, .slice none 0 0, .slice none 0 0, .int .u64 0, .int .u64 0, .string ⟨#[]⟩, .int .i64 0] from Z7.out.1)
          obtain ⟨nD, gD⟩ := Z7.out.store (i := i1) (s := s1) (k := e1) V1.out
          have cm := Z7.out.calm
          have I3 := Lib.hid (I3.out.kp gD Z7.out.2)
          have CC := Lib.hid (CC.out.kp cm gD)
          have V2 := Lib.hid (V2.out.kp cm gD)
          have Z8 := Lib.hid (Z8.out.kp gD (Ne.symm NE.out))
          have LTp7 := Lib.hid Z7.out.2
          have D7 := Lib.hid nD
          clear nD gD cm Z7 V1
          go_simp
          obtain ⟨z5, hw⟩ : ∃ z, z = ((((((((z4.setCell ⟨p7, 0, none⟩ (.string d1.name)).setCell ⟨p7, 1, none⟩ (.int .i64 d1.st)).setCell ⟨p7, 2, none⟩ (.slice E1a d1.L.length e1a)).setCell ⟨p7, 3, none⟩ (.slice E1b d1.U.length e1b)).setCell ⟨p7, 4, none⟩ (.int .u64 (d1.last : Nat))).setCell ⟨p7, 5, none⟩ (.int .u64 (i1 : Nat))).setCell ⟨p7, 6, none⟩ (.string s1)).setCell ⟨p7, 7, none⟩ (.int .i64 (e1 : Nat))) := ⟨_, rfl⟩
          rw [← hw] at I3 CC V2 Z8 D7 ⊢
          clear hw r0 r1 r2 r3 r4 r5 r6 r7 f0 f1 f2 f3 f4 f5 f6 f7
          refine hK.out _ _ I3.out (fun hHeld => ?_)
          clear hK K
          (try simp only [Act.put, PS])
          refine wpAnyH_ready (rs := [9]) (by kernel_rfl) (by simp) ?_
          refine (AllReadyH.cons (o := _) rfl (fun K hK => ?_) AllReadyH.nil)
          obtain ⟨⟨r0, r1, r2, r3, r4, r5, r6, r7⟩, f0, f1, f2, f3, f4, f5, f6, f7⟩ := bx_did (show Bx _ _ _ #[.string ⟨#[]⟩, .int .i64 0, .slice none 0 0, .slice none 0 0, .int .u64 0, .int .u64 0, .string ⟨#[]⟩, .int .i64 0] from Z8.out.1)
          obtain ⟨nD, gD⟩ := Z8.out.store (i := i2) (s := s2) (k := e2) V2.out
          have cm := Z8.out.calm
          have I3 := Lib.hid (I3.out.kp gD Z8.out.2)
          have CC := Lib.hid (CC.out.kp cm gD)
          have D7 := Lib.hid (D7.out.kp cm gD NE.out)
          have LTp8 := Lib.hid Z8.out.2
          have D8 := Lib.hid nD
          clear nD gD cm Z8 V2
          go_simp
          obtain ⟨z6, hw⟩ : ∃ z, z = ((((((((z5.setCell ⟨p8, 0, none⟩ (.string d2.name)).setCell ⟨p8, 1, none⟩ (.int .i64 d2.st)).setCell ⟨p8, 2, none⟩ (.slice E2a d2.L.length e2a)).setCell ⟨p8, 3, none⟩ (.slice E2b d2.U.length e2b)).setCell ⟨p8, 4, none⟩ (.int .u64 (d2.last : Nat))).setCell ⟨p8, 5, none⟩ (.int .u64 (i2 : Nat))).setCell ⟨p8, 6, none⟩ (.string s2)).setCell ⟨p8, 7, none⟩ (.int .i64 (e2 : Nat))) := ⟨_, rfl⟩
          rw [← hw] at I3 CC D7 D8 ⊢
          clear hw r0 r1 r2 r3 r4 r5 r6 r7 f0 f1 f2 f3 f4 f5 f6 f7
          refine hK.out _ _ I3.out (fun hHeld => ?_)
          clear hK K
          (try simp only [Act.put, PS])
          refine wpAnyH_done (by kernel_rfl) ?_ _
          go_wp2_with fail
          go_meet
          exact ⟨p7, p8, rfl, rfl, In3.of I3.out CC.out, D7.out, D8.out⟩
        · have Z8 := Lib.hid (I3.out.newD)
          have q := (Q.refl z2).alloc (.cells zDid 34)
          have I3 := Lib.hid (I3.out.on q)
          have CC := Lib.hid (CC.out.on q)
          have V1 := Lib.hid (V1.out.on q)
          have V2 := Lib.hid (V2.out.on q)
          clear q
          go_simp
          obtain ⟨z7, hw⟩ : ∃ z, z = z2.alloc (.cells zDid 34) := ⟨_, rfl⟩
          rw [← hw] at I3 CC V1 V2 Z8
          simp only [zDid] at hw
          rw [← hw]
          obtain ⟨p8, hp⟩ : ∃ p, p = z2.heap.size := ⟨_, rfl⟩
          rw [← hp] at Z8 ⊢
          clear hw hp
          refine hK.out _ _ I3.out (fun hHeld => ?_)
          clear hK K
          (try simp only [Act.put, PS])
          refine wpAnyH_ready (rs := [6]) (by kernel_rfl) (by simp) ?_
          refine (AllReadyH.cons (o := _) rfl (fun K hK => ?_) AllReadyH.nil)
          have Z7 := Lib.hid (I3.out.newD)
          have NE : Hid (z7.heap.size ≠ p8) := Lib.hid (Nat.ne_of_gt Z8.out.1.lt)
          have q := (Q.refl z7).alloc (.cells zDid 34)
          have I3 := Lib.hid (I3.out.on q)
          have CC := Lib.hid (CC.out.on q)
          have V1 := Lib.hid (V1.out.on q)
          have V2 := Lib.hid (V2.out.on q)
          have Z8 := Lib.hid (Z8.out.on q)
          clear q
          go_simp
          obtain ⟨z8, hw⟩ : ∃ z, z = z7.alloc (.cells zDid 34) := ⟨_, rfl⟩
          rw [← hw] at I3 CC V1 V2 Z8 Z7
          simp only [zDid] at hw
          rw [← hw]
          obtain ⟨p7, hp⟩ : ∃ p, p = z7.heap.size := ⟨_, rfl⟩
          rw [← hp] at Z7 NE ⊢
          clear hw hp
          refine hK.out _ _ I3.out (fun hHeld => ?_)
          clear hK K
          (try simp only [Act.put, PS])
          refine wpAnyH_ready (rs := [8]) (by kernel_rfl) (by simp) ?_
          refine (AllReadyH.cons (o := _) rfl (fun K hK => ?_) AllReadyH.nil)
          obtain ⟨⟨r0, r1, r2, r3, r4, r5, r6, r7⟩, f0, f1, f2, f3, f4, f5, f6, f7⟩ := bx_did (show Bx _ _ _ #[.string ⟨#[]⟩, .int .i64 0, .slice none 0 0, .slice none 0 0, .int .u64 0, .int .u64 0, .string ⟨#[]⟩, .int .i64 0] from Z7.out.1)
          obtain ⟨nD, gD⟩ := Z7.out.store (i := i1) (s := s1) (k := e1) V1.out
          have cm := Z7.out.calm
          have I3 := Lib.hid (I3.out.kp gD Z7.out.2)
          have CC := Lib.hid (CC.out.kp cm gD)
          have V2 := Lib.hid (V2.out.kp cm gD)
          have Z8 := Lib.hid (Z8.out.kp gD (Ne.symm NE.out))
          have LTp7 := Lib.hid Z7.out.2
          have D7 := Lib.hid nD
          clear nD gD cm Z7 V1
          go_simp
          obtain ⟨z9, hw⟩ : ∃ z, z = ((((((((z8.setCell ⟨p7, 0, none⟩ (.string d1.name)).setCell ⟨p7, 1, none⟩ (.int .i64 d1.st)).setCell ⟨p7, 2, none⟩ (.slice E1a d1.L.length e1a)).setCell ⟨p7, 3, none⟩ (.slice E1b d1.U.length e1b)).setCell ⟨p7, 4, none⟩ (.int .u64 (d1.last : Nat))).setCell ⟨p7, 5, none⟩ (.int .u64 (i1 : Nat))).setCell ⟨p7, 6, none⟩ (.string s1)).setCell ⟨p7, 7, none⟩ (.int .i64 (e1 : Nat))) := ⟨_, rfl⟩
          rw [← hw] at I3 CC V2 Z8 D7 ⊢
          clear hw r0 r1 r2 r3 r4 r5 r6 r7 f0 f1 f2 f3 f4 f5 f6 f7
          refine hK.out _ _ I3.out (fun hHeld => ?_)
          clear hK K
          (try simp only [Act.put, PS])
          refine wpAnyH_ready (rs := [9]) (by kernel_rfl) (by simp) ?_
          refine (AllReadyH.cons (o := _) rfl (fun K hK => ?_) AllReadyH.nil)
          obtain ⟨⟨r0, r1, r2, r3, r4, r5, r6, r7⟩, f0, f1, f2, f3, f4, f5, f6, f7⟩ := bx_did (show Bx _ _ _ #[.string ⟨#[]⟩, .int .i64 0, .slice none 0 0, .slice none 0 0, .int .u64 0, .int .u64 0, .string ⟨#[]⟩, .int .i64 0] from Z8.out.1)
          obtain ⟨nD, gD⟩ := Z8.out.store (i := i2) (s := s2) (k := e2) V2.out
          have cm := Z8.out.calm
          have I3 := Lib.hid (I3.out.kp gD Z8.out.2)
          have CC := Lib.hid (CC.out.kp cm gD)
          have D7 := Lib.hid (D7.out.kp cm gD NE.out)
          have LTp8 := Lib.hid Z8.out.2
          have D8 := Lib.hid nD
          clear nD gD cm Z8 V2
          go_simp
          obtain ⟨z10, hw⟩ : ∃ z, z = ((((((((z9.setCell ⟨p8, 0, none⟩ (.string d2.name)).setCell ⟨p8, 1, none⟩ (.int .i64 d2.st)).setCell ⟨p8, 2, none⟩ (.slice E2a d2.L.length e2a)).setCell ⟨p8, 3, none⟩ (.slice E2b d2.U.length e2b)).setCell ⟨p8, 4, none⟩ (.int .u64 (d2.last : Nat))).setCell ⟨p8, 5, none⟩ (.int .u64 (i2 : Nat))).setCell ⟨p8, 6, none⟩ (.string s2)).setCell ⟨p8, 7, none⟩ (.int .i64 (e2 : Nat))) := ⟨_, rfl⟩
          rw [← hw] at I3 CC D7 D8 ⊢
          clear hw r0 r1 r2 r3 r4 r5 r6 r7 f0 f1 f2 f3 f4 f5 f6 f7
          refine hK.out _ _ I3.out (fun hHeld => ?_)
          clear hK K
          (try simp only [Act.put, PS])
          refine wpAnyH_done (by kernel_rfl) ?_ _
          go_wp2_with fail
          go_meet
          exact ⟨p7, p8, rfl, rfl, In3.of I3.out CC.out, D7.out, D8.out⟩
      · have Z7 := Lib.hid (I3.out.newD)
        have q := (Q.refl z1).alloc (.cells zDid 34)
        have I3 := Lib.hid (I3.out.on q)
        have CC := Lib.hid (CC.out.on q)
        have V1 := Lib.hid (V1.out.on q)
        clear q
        go_simp
        obtain ⟨z11, hw⟩ : ∃ z, z = z1.alloc (.cells zDid 34) := ⟨_, rfl⟩
        rw [← hw] at I3 CC V1 Z7
        simp only [zDid] at hw
        rw [← hw]
        obtain ⟨p7, hp⟩ : ∃ p, p = z1.heap.size := ⟨_, rfl⟩
        rw [← hp] at Z7 ⊢
        clear hw hp
        refine hK.out _ _ I3.out (fun hHeld => ?_)
        clear hK K
        (try simp only [Act.put, PS])
        refine wpAnyH_ready (rs := [5, 7]) (by kernel_rfl) (by simp) ?_
        refine (AllReadyH.cons (o := _) rfl (fun K hK => ?_) (AllReadyH.cons (o := _) rfl (fun K hK => ?_) AllReadyH.nil))
        · go_simp
          go_at_call 12
          refine (DO2.out _ _ _ _ _ _ _ CC.out.1 CC.out.2.2).mono ?_
          rintro e z12 ⟨E2a, e2a, E2b, e2b, rfl, v, q⟩
          have I3 := Lib.hid (I3.out.on q)
          have CC := Lib.hid (CC.out.on q)
          have V1 := Lib.hid (V1.out.on q)
          have Z7 := Lib.hid (Z7.out.on q)
          have V2 := Lib.hid v
          clear v q
          refine hK.out _ _ I3.out (fun hHeld => ?_)
          clear hK K
          (try simp only [Act.put, PS])
          refine wpAnyH_ready (rs := [7]) (by kernel_rfl) (by simp) ?_
          refine (AllReadyH.cons (o := _) rfl (fun K hK => ?_) AllReadyH.nil)
          have Z8 := Lib.hid (I3.out.newD)
          have NE : Hid (p7 ≠ z12.heap.size) := Lib.hid (Nat.ne_of_lt Z7.out.1.lt)
          have q := (Q.refl z12).alloc (.cells zDid 34)
          have I3 := Lib.hid (I3.out.on q)
          have CC := Lib.hid (CC.out.on q)
          have V1 := Lib.hid (V1.out.on q)
          have Z7 := Lib.hid (Z7.out.on q)
          have V2 := Lib.hid (V2.out.on q)
          clear q
          go_simp
          obtain ⟨z13, hw⟩ : ∃ z, z = z12.alloc (.cells zDid 34) := ⟨_, rfl⟩
          rw [← hw] at I3 CC V1 Z7 V2 Z8
          simp only [zDid] at hw
          rw [← hw]
          obtain ⟨p8, hp⟩ : ∃ p, p = z12.heap.size := ⟨_, rfl⟩
          rw [← hp] at Z8 NE ⊢
          clear hw hp
          refine hK.out _ _ I3.out (fun hHeld => ?_)
          clear hK K
          (try simp only [Act.put, PS])
          refine wpAnyH_ready (rs := [8]) (by kernel_rfl) (by simp) ?_
          refine (AllReadyH.cons (o := _) rfl (fun K hK => ?_) AllReadyH.nil)
          obtain ⟨⟨r0, r1, r2, r3, r4, r5, r6, r7⟩, f0, f1, f2, f3, f4, f5, f6, f7⟩ := bx_did (show Bx _ _ _ #[.string ⟨#[]⟩, .int .i64 0, .slice none 0 0, .slice none 0 0, .int .u64 0, .int .u64 0, .string ⟨#[]⟩, .int .i64 0] from Z7.out.1)
          obtain ⟨nD, gD⟩ := Z7.out.store (i := i1) (s := s1) (k := e1) V1.out
          have cm := Z7.out.calm
          have I3 := Lib.hid (I3.out.kp gD Z7.out.2)
          have CC := Lib.hid (CC.out.kp cm gD)
          have V2 := Lib.hid (V2.out.kp cm gD)
          have Z8 := Lib.hid (Z8.out.kp gD (Ne.symm NE.out))
          have LTp7 := Lib.hid Z7.out.2
          have D7 := Lib.hid nD
          clear nD gD cm Z7 V1
          go_simp
          obtain ⟨z14, hw⟩ : ∃ z, z = ((((((((z13.setCell ⟨p7, 0, none⟩ (.string d1.name)).setCell ⟨p7, 1, none⟩ (.int .i64 d1.st)).setCell ⟨p7, 2, none⟩ (.slice E1a d1.L.length e1a)).setCell ⟨p7, 3, none⟩ (.slice E1b d1.U.length e1b)).setCell ⟨p7, 4, none⟩ (.int .u64 (d1.last : Nat))).setCell ⟨p7, 5, none⟩ (.int .u64 (i1 : Nat))).setCell ⟨p7, 6, none⟩ (.string s1)).setCell ⟨p7, 7, none⟩ (.int .i64 (e1 : Nat))) := ⟨_, rfl⟩
          rw [← hw] at I3 CC V2 Z8 D7 ⊢
          clear hw r0 r1 r2 r3 r4 r5 r6 r7 f0 f1 f2 f3 f4 f5 f6 f7
          refine hK.out _ _ I3.out (fun hHeld => ?_)
          clear hK K
          (try simp only [Act.put, PS])
          refine wpAnyH_ready (rs := [9]) (by kernel_rfl) (by simp) ?_
          refine (AllReadyH.cons (o := _) rfl (fun K hK => ?_) AllReadyH.nil)
          obtain ⟨⟨r0, r1, r2, r3, r4, r5, r6, r7⟩, f0, f1, f2, f3, f4, f5, f6, f7⟩ := bx_did (show Bx _ _ _ #[.string ⟨#[]⟩, .int .i64 0, .slice none 0 0, .slice none 0 0, .int .u64 0, .int .u64 0, .string ⟨#[]⟩, .int .i64 0] from Z8.out.1)
          obtain ⟨nD, gD⟩ := Z8.out.store (i := i2) (s := s2) (k := e2) V2.out
          have cm := Z8.out.calm
          have I3 := Lib.hid (I3.out.kp gD Z8.out.2)
          have CC := Lib.hid (CC.out.kp cm gD)
          have D7 := Lib.hid (D7.out.kp cm gD NE.out)
          have LTp8 := Lib.hid Z8.out.2
          have D8 := Lib.hid nD
          clear nD gD cm Z8 V2
          go_simp
          obtain ⟨z15, hw⟩ : ∃ z, z = ((((((((z14.setCell ⟨p8, 0, none⟩ (.string d2.name)).setCell ⟨p8, 1, none⟩ (.int .i64 d2.st)).setCell ⟨p8, 2, none⟩ (.slice E2a d2.L.length e2a)).setCell ⟨p8, 3, none⟩ (.slice E2b d2.U.length e2b)).setCell ⟨p8, 4, none⟩ (.int .u64 (d2.last : Nat))).setCell ⟨p8, 5, none⟩ (.int .u64 (i2 : Nat))).setCell ⟨p8, 6, none⟩ (.string s2)).setCell ⟨p8, 7, none⟩ (.int .i64 (e2 : Nat))) := ⟨_, rfl⟩
          rw [← hw] at I3 CC D7 D8 ⊢
          clear hw r0 r1 r2 r3 r4 r5 r6 r7 f0 f1 f2 f3 f4 f5 f6 f7
          refine hK.out _ _ I3.out (fun hHeld => ?_)
          clear hK K
          (try simp only [Act.put, PS])
          refine wpAnyH_done (by kernel_rfl) ?_ _
          go_wp2_with fail
          go_meet
          exact ⟨p7, p8, rfl, rfl, In3.of I3.out CC.out, D7.out, D8.out⟩
        · have Z8 := Lib.hid (I3.out.newD)
          have NE : Hid (p7 ≠ z11.heap.size) := Lib.hid (Nat.ne_of_lt Z7.out.1.lt)
          have q := (Q.refl z11).alloc (.cells zDid 34)
          have I3 := Lib.hid (I3.out.on q)
          have CC := Lib.hid (CC.out.on q)
          have V1 := Lib.hid (V1.out.on q)
          have Z7 := Lib.hid (Z7.out.on q)
          clear q
          go_simp
          obtain ⟨z16, hw⟩ : ∃ z, z = z11.alloc (.cells zDid 34) := ⟨_, rfl⟩
          rw [← hw] at I3 CC V1 Z7 Z8
          simp only [zDid] at hw
          rw [← hw]
          obtain ⟨p8, hp⟩ : ∃ p, p = z11.heap.size := ⟨_, rfl⟩
          rw [← hp] at Z8 NE ⊢
          clear hw hp
          refine hK.out _ _ I3.out (fun hHeld => ?_)
          clear hK K
          (try simp only [Act.put, PS])
          refine wpAnyH_ready (rs := [5]) (by kernel_rfl) (by simp) ?_
          refine (AllReadyH.cons (o := _) rfl (fun K hK => ?_) AllReadyH.nil)
          go_simp
          go_at_call 12
          refine (DO2.out _ _ _ _ _ _ _ CC.out.1 CC.out.2.2).mono ?_
          rintro e z17 ⟨E2a, e2a, E2b, e2b, rfl, v, q⟩
          have I3 := Lib.hid (I3.out.on q)
          have CC := Lib.hid (CC.out.on q)
          have V1 := Lib.hid (V1.out.on q)
          have Z7 := Lib.hid (Z7.out.on q)
          have Z8 := Lib.hid (Z8.out.on q)
          have V2 := Lib.hid v
          clear v q
          refine hK.out _ _ I3.out (fun hHeld => ?_)
          clear hK K
          (try simp only [Act.put, PS])
          refine wpAnyH_ready (rs := [8]) (by kernel_rfl) (by simp) ?_
          refine (AllReadyH.cons (o := _) rfl (fun K hK => ?_) AllReadyH.nil)
          obtain ⟨⟨r0, r1, r2, r3, r4, r5, r6, r7⟩, f0, f1, f2, f3, f4, f5, f6, f7⟩ := bx_did (show Bx _ _ _ #[.string ⟨#[]⟩, .int .i64 0, .slice none 0 0, .slice none 0 0, .int .u64 0, .int .u64 0, .string ⟨#[]⟩, .int .i64 0] from Z7.out.1)
          obtain ⟨nD, gD⟩ := Z7.out.store (i := i1) (s := s1) (k := e1) V1.out
          have cm := Z7.out.calm
          have I3 := Lib.hid (I3.out.kp gD Z7.out.2)
          have CC := Lib.hid (CC.out.kp cm gD)
          have Z8 := Lib.hid (Z8.out.kp gD (Ne.symm NE.out))
          have V2 := Lib.hid (V2.out.kp cm gD)
          have LTp7 := Lib.hid Z7.out.2
          have D7 := Lib.hid nD
          clear nD gD cm Z7 V1
          go_simp
          obtain ⟨z18, hw⟩ : ∃ z, z = ((((((((z17.setCell ⟨p7, 0, none⟩ (.string d1.name)).setCell ⟨p7, 1, none⟩ (.int .i64 d1.st)).setCell ⟨p7, 2, none⟩ (.slice E1a d1.L.length e1a)).setCell ⟨p7, 3, none⟩ (.slice E1b d1.U.length e1b)).setCell ⟨p7, 4, none⟩ (.int .u64 (d1.last : Nat))).setCell ⟨p7, 5, none⟩ (.int .u64 (i1 : Nat))).setCell ⟨p7, 6, none⟩ (.string s1)).setCell ⟨p7, 7, none⟩ (.int .i64 (e1 : Nat))) := ⟨_, rfl⟩
          rw [← hw] at I3 CC Z8 V2 D7 ⊢
          clear hw r0 r1 r2 r3 r4 r5 r6 r7 f0 f1 f2 f3 f4 f5 f6 f7
          refine hK.out _ _ I3.out (fun hHeld => ?_)
          clear hK K
          (try simp only [Act.put, PS])
          refine wpAnyH_ready (rs := [9]) (by kernel_rfl) (by simp) ?_
          refine (AllReadyH.cons (o := _) rfl (fun K hK => ?_) AllReadyH.nil)
          obtain ⟨⟨r0, r1, r2, r3, r4, r5, r6, r7⟩, f0, f1, f2, f3, f4, f5, f6, f7⟩ := bx_did (show Bx _ _ _ #[.string ⟨#[]⟩, .int .i64 0, .slice none 0 0, .slice none 0 0, .int .u64 0, .int .u64 0, .string ⟨#[]⟩, .int .i64 0] from Z8.out.1)
          obtain ⟨nD, gD⟩ := Z8.out.store (i := i2) (s := s2) (k := e2) V2.out
          have cm := Z8.out.calm
          have I3 := Lib.hid (I3.out.kp gD Z8.out.2)
          have CC := Lib.hid (CC.out.kp cm gD)
          have D7 := Lib.hid (D7.out.kp cm gD NE.out)
          have LTp8 := Lib.hid Z8.out.2
          have D8 := Lib.hid nD
          clear nD gD cm Z8 V2
          go_simp
          obtain ⟨z19, hw⟩ : ∃ z, z = ((((((((z18.setCell ⟨p8, 0, none⟩ (.string d2.name)).setCell ⟨p8, 1, none⟩ (.int .i64 d2.st)).setCell ⟨p8, 2, none⟩ (.slice E2a d2.L.length e2a)).setCell ⟨p8, 3, none⟩ (.slice E2b d2.U.length e2b)).setCell ⟨p8, 4, none⟩ (.int .u64 (d2.last : Nat))).setCell ⟨p8, 5, none⟩ (.int .u64 (i2 : Nat))).setCell ⟨p8, 6, none⟩ (.string s2)).setCell ⟨p8, 7, none⟩ (.int .i64 (e2 : Nat))) := ⟨_, rfl⟩
          rw [← hw] at I3 CC D7 D8 ⊢
          clear hw r0 r1 r2 r3 r4 r5 r6 r7 f0 f1 f2 f3 f4 f5 f6 f7
          refine hK.out _ _ I3.out (fun hHeld => ?_)
          clear hK K
          (try simp only [Act.put, PS])
          refine wpAnyH_done (by kernel_rfl) ?_ _
          go_wp2_with fail
          go_meet
          exact ⟨p7, p8, rfl, rfl, In3.of I3.out CC.out, D7.out, D8.out⟩
      · have Z8 := Lib.hid (I3.out.newD)
        have q := (Q.refl z1).alloc (.cells zDid 34)
        have I3 := Lib.hid (I3.out.on q)
        have CC := Lib.hid (CC.out.on q)
        have V1 := Lib.hid (V1.out.on q)
        clear q
        go_simp
        obtain ⟨z20, hw⟩ : ∃ z, z = z1.alloc (.cells zDid 34) := ⟨_, rfl⟩
        rw [← hw] at I3 CC V1 Z8
        simp only [zDid] at hw
        rw [← hw]
        obtain ⟨p8, hp⟩ : ∃ p, p = z1.heap.size := ⟨_, rfl⟩
        rw [← hp] at Z8 ⊢
        clear hw hp
        refine hK.out _ _ I3.out (fun hHeld => ?_)
        clear hK K
        (try simp only [Act.put, PS])
        refine wpAnyH_ready (rs := [5, 6]) (by kernel_rfl) (by simp) ?_
        refine (AllReadyH.cons (o := _) rfl (fun K hK => ?_) (AllReadyH.cons (o := _) rfl (fun K hK => ?_) AllReadyH.nil))
        · go_simp
          go_at_call 12
          refine (DO2.out _ _ _ _ _ _ _ CC.out.1 CC.out.2.2).mono ?_
          rintro e z21 ⟨E2a, e2a, E2b, e2b, rfl, v, q⟩
          have I3 := Lib.hid (I3.out.on q)
          have CC := Lib.hid (CC.out.on q)
          have V1 := Lib.hid (V1.out.on q)
          have Z8 := Lib.hid (Z8.out.on q)
          have V2 := Lib.hid v
          clear v q
          refine hK.out _ _ I3.out (fun hHeld => ?_)
          clear hK K
          (try simp only [Act.put, PS])
          refine wpAnyH_ready (rs := [6]) (by kernel_rfl) (by simp) ?_
          refine (AllReadyH.cons (o := _) rfl (fun K hK => ?_) AllReadyH.nil)
          have Z7 := Lib.hid (I3.out.newD)
          have NE : Hid (z21.heap.size ≠ p8) := Lib.hid (Nat.ne_of_gt Z8.out.1.lt)
          have q := (Q.refl z21).alloc (.cells zDid 34)
          have I3 := Lib.hid (I3.out.on q)
          have CC := Lib.hid (CC.out.on q)
          have V1 := Lib.hid (V1.out.on q)
          have Z8 := Lib.hid (Z8.out.on q)
          have V2 := Lib.hid (V2.out.on q)
          clear q
          go_simp
          obtain ⟨z22, hw⟩ : ∃ z, z = z21.alloc (.cells zDid 34) := ⟨_, rfl⟩
          rw [← hw] at I3 CC V1 Z8 V2 Z7
          simp only [zDid] at hw
          rw [← hw]
          obtain ⟨p7, hp⟩ : ∃ p, p = z21.heap.size := ⟨_, rfl⟩
          rw [← hp] at Z7 NE ⊢
          clear hw hp
          refine hK.out _ _ I3.out (fun hHeld => ?_)
          clear hK K
          (try simp only [Act.put, PS])
          refine wpAnyH_ready (rs := [8]) (by kernel_rfl) (by simp) ?_
          refine (AllReadyH.cons (o := _) rfl (fun K hK => ?_) AllReadyH.nil)
          obtain ⟨⟨r0, r1, r2, r3, r4, r5, r6, r7⟩, f0, f1, f2, f3, f4, f5, f6, f7⟩ := bx_did (show Bx _ _ _ #[.string ⟨#[]⟩, .int .i64 0, .slice none 0 0, .slice none 0 0, .int .u64 0, .int .u64 0, .string ⟨#[]⟩, .int .i64 0] from Z7.out.1)
          obtain ⟨nD, gD⟩ := Z7.out.store (i := i1) (s := s1) (k := e1) V1.out
          have cm := Z7.out.calm
          have I3 := Lib.hid (I3.out.kp gD Z7.out.2)
          have CC := Lib.hid (CC.out.kp cm gD)
          have Z8 := Lib.hid (Z8.out.kp gD (Ne.symm NE.out))
          have V2 := Lib.hid (V2.out.kp cm gD)
          have LTp7 := Lib.hid Z7.out.2
          have D7 := Lib.hid nD
          clear nD gD cm Z7 V1
          go_simp
          obtain ⟨z23, hw⟩ : ∃ z, z = ((((((((z22.setCell ⟨p7, 0, none⟩ (.string d1.name)).setCell ⟨p7, 1, none⟩ (.int .i64 d1.st)).setCell ⟨p7, 2, none⟩ (.slice E1a d1.L.length e1a)).setCell ⟨p7, 3, none⟩ (.slice E1b d1.U.length e1b)).setCell ⟨p7, 4, none⟩ (.int .u64 (d1.last : Nat))).setCell ⟨p7, 5, none⟩ (.int .u64 (i1 : Nat))).setCell ⟨p7, 6, none⟩ (.string s1)).setCell ⟨p7, 7, none⟩ (.int .i64 (e1 : Nat))) := ⟨_, rfl⟩
          rw [← hw] at I3 CC Z8 V2 D7 ⊢
          clear hw r0 r1 r2 r3 r4 r5 r6 r7 f0 f1 f2 f3 f4 f5 f6 f7
          refine hK.out _ _ I3.out (fun hHeld => ?_)
          clear hK K
          (try simp only [Act.put, PS])
          refine wpAnyH_ready (rs := [9]) (by kernel_rfl) (by simp) ?_
          refine (AllReadyH.cons (o := _) rfl (fun K hK => ?_) AllReadyH.nil)
          obtain ⟨⟨r0, r1, r2, r3, r4, r5, r6, r7⟩, f0, f1, f2, f3, f4, f5, f6, f7⟩ := bx_did (show Bx _ _ _ #[.string ⟨#[]⟩, .int .i64 0, .slice none 0 0, .slice none 0 0, .int .u64 0, .int .u64 0, .string ⟨#[]⟩, .int .i64 0] from Z8.out.1)
          obtain ⟨nD, gD⟩ := Z8.out.store (i := i2) (s := s2) (k := e2) V2.out
          have cm := Z8.out.calm
          have I3 := Lib.hid (I3.out.kp gD Z8.out.2)
          have CC := Lib.hid (CC.out.kp cm gD)
          have D7 := Lib.hid (D7.out.kp cm gD NE.out)
          have LTp8 := Lib.hid Z8.out.2
          have D8 := Lib.hid nD
          clear nD gD cm Z8 V2
          go_simp
          obtain ⟨z24, hw⟩ : ∃ z, z = ((((((((z23.setCell ⟨p8, 0, none⟩ (.string d2.name)).setCell ⟨p8, 1, none⟩ (.int .i64 d2.st)).setCell ⟨p8, 2, none⟩ (.slice E2a d2.L.length e2a)).setCell ⟨p8, 3, none⟩ (.slice E2b d2.U.length e2b)).setCell ⟨p8, 4, none⟩ (.int .u64 (d2.last : Nat))).setCell ⟨p8, 5, none⟩ (.int .u64 (i2 : Nat))).setCell ⟨p8, 6, none⟩ (.string s2)).setCell ⟨p8, 7, none⟩ (.int .i64 (e2 : Nat))) := ⟨_, rfl⟩
          rw [← hw] at I3 CC D7 D8 ⊢
          clear hw r0 r1 r2 r3 r4 r5 r6 r7 f0 f1 f2 f3 f4 f5 f6 f7
          refine hK.out _ _ I3.out (fun hHeld => ?_)
          clear hK K
          (try simp only [Act.put, PS])
          refine wpAnyH_done (by kernel_rfl) ?_ _
          go_wp2_with fail
          go_meet
          exact ⟨p7, p8, rfl, rfl, In3.of I3.out CC.out, D7.out, D8.out⟩
        · have Z7 := Lib.hid (I3.out.newD)
          have NE : Hid (z20.heap.size ≠ p8) := Lib.hid (Nat.ne_of_gt Z8.out.1.lt)
          have q := (Q.refl z20).alloc (.cells zDid 34)
          have I3 := Lib.hid (I3.out.on q)
          have CC := Lib.hid (CC.out.on q)
          have V1 := Lib.hid (V1.out.on q)
          have Z8 := Lib.hid (Z8.out.on q)
          clear q
          go_simp
          obtain ⟨z25, hw⟩ : ∃ z, z = z20.alloc (.cells zDid 34) := ⟨_, rfl⟩
          rw [← hw] at I3 CC V1 Z8 Z7
          simp only [zDid] at hw
          rw [← hw]
          obtain ⟨p7, hp⟩ : ∃ p, p = z20.heap.size := ⟨_, rfl⟩
          rw [← hp] at Z7 NE ⊢
          clear hw hp
          refine hK.out _ _ I3.out (fun hHeld => ?_)
          clear hK K
          (try simp only [Act.put, PS])
          refine wpAnyH_ready (rs := [5]) (by kernel_rfl) (by simp) ?_
          refine (AllReadyH.cons (o := _) rfl (fun K hK => ?_) AllReadyH.nil)
          go_simp
          go_at_call 12
          refine (DO2.out _ _ _ _ _ _ _ CC.out.1 CC.out.2.2).mono ?_
          rintro e z26 ⟨E2a, e2a, E2b, e2b, rfl, v, q⟩
          have I3 := Lib.hid (I3.out.on q)
          have CC := Lib.hid (CC.out.on q)
          have V1 := Lib.hid (V1.out.on q)
          have Z8 := Lib.hid (Z8.out.on q)
          have Z7 := Lib.hid (Z7.out.on q)
          have V2 := Lib.hid v
          clear v q
          refine hK.out _ _ I3.out (fun hHeld => ?_)
          clear hK K
          (try simp only [Act.put, PS])
          refine wpAnyH_ready (rs := [8]) (by kernel_rfl) (by simp) ?_
          refine (AllReadyH.cons (o := _) rfl (fun K hK => ?_) AllReadyH.nil)
          obtain ⟨⟨r0, r1, r2, r3, r4, r5, r6, r7⟩, f0, f1, f2, f3, f4, f5, f6, f7⟩ := bx_did (show Bx _ _ _ #[.string ⟨#[]⟩, .int .i64 0, .slice none 0 0, .slice none 0 0, .int .u64 0, .int .u64 0, .string ⟨#[]⟩, .int .i64 0] from Z7.out.1)
          obtain ⟨nD, gD⟩ := Z7.out.store (i := i1) (s := s1) (k := e1) V1.out
          have cm := Z7.out.calm
          have I3 := Lib.hid (I3.out.kp gD Z7.out.2)
          have CC := Lib.hid (CC.out.kp cm gD)
          have Z8 := Lib.hid (Z8.out.kp gD (Ne.symm NE.out))
          have V2 := Lib.hid (V2.out.kp cm gD)
          have LTp7 := Lib.hid Z7.out.2
          have D7 := Lib.hid nD
          clear nD gD cm Z7 V1
          go_simp
          obtain ⟨z27, hw⟩ : ∃ z, z = ((((((((z26.setCell ⟨p7, 0, none⟩ (.string d1.name)).setCell ⟨p7, 1, none⟩ (.int .i64 d1.st)).setCell ⟨p7, 2, none⟩ (.slice E1a d1.L.length e1a)).setCell ⟨p7, 3, none⟩ (.slice E1b d1.U.length e1b)).setCell ⟨p7, 4, none⟩ (.int .u64 (d1.last : Nat))).setCell ⟨p7, 5, none⟩ (.int .u64 (i1 : Nat))).setCell ⟨p7, 6, none⟩ (.string s1)).setCell ⟨p7, 7, none⟩ (.int .i64 (e1 : Nat))) := ⟨_, rfl⟩
          rw [← hw] at I3 CC Z8 V2 D7 ⊢
          clear hw r0 r1 r2 r3 r4 r5 r6 r7 f0 f1 f2 f3 f4 f5 f6 f7
          refine hK.out _ _ I3.out (fun hHeld => ?_)
          clear hK K
          (try simp only [Act.put, PS])
          refine wpAnyH_ready (rs := [9]) (by kernel_rfl) (by simp) ?_
          refine (AllReadyH.cons (o := _) rfl (fun K hK => ?_) AllReadyH.nil)
          obtain ⟨⟨r0, r1, r2, r3, r4, r5, r6, r7⟩, f0, f1, f2, f3, f4, f5, f6, f7⟩ := bx_did (show Bx _ _ _ #[.string ⟨#[]⟩, .int .i64 0, .slice none 0 0, .slice none 0 0, .int .u64 0, .int .u64 0, .string ⟨#[]⟩, .int .i64 0] from Z8.out.1)
          obtain ⟨nD, gD⟩ := Z8.out.store (i := i2) (s := s2) (k := e2) V2.out
          have cm := Z8.out.calm
          have I3 := Lib.hid (I3.out.kp gD Z8.out.2)
          have CC := Lib.hid (CC.out.kp cm gD)
          have D7 := Lib.hid (D7.out.kp cm gD NE.out)
          have LTp8 := Lib.hid Z8.out.2
          have D8 := Lib.hid nD
          clear nD gD cm Z8 V2
          go_simp
          obtain ⟨z28, hw⟩ : ∃ z, z = ((((((((z27.setCell ⟨p8, 0, none⟩ (.string d2.name)).setCell ⟨p8, 1, none⟩ (.int .i64 d2.st)).setCell ⟨p8, 2, none⟩ (.slice E2a d2.L.length e2a)).setCell ⟨p8, 3, none⟩ (.slice E2b d2.U.length e2b)).setCell ⟨p8, 4, none⟩ (.int .u64 (d2.last : Nat))).setCell ⟨p8, 5, none⟩ (.int .u64 (i2 : Nat))).setCell ⟨p8, 6, none⟩ (.string s2)).setCell ⟨p8, 7, none⟩ (.int .i64 (e2 : Nat))) := ⟨_, rfl⟩
          rw [← hw] at I3 CC D7 D8 ⊢
          clear hw r0 r1 r2 r3 r4 r5 r6 r7 f0 f1 f2 f3 f4 f5 f6 f7
          refine hK.out _ _ I3.out (fun hHeld => ?_)
          clear hK K
          (try simp only [Act.put, PS])
          refine wpAnyH_done (by kernel_rfl) ?_ _
          go_wp2_with fail
          go_meet
          exact ⟨p7, p8, rfl, rfl, In3.of I3.out CC.out, D7.out, D8.out⟩
    · have Z7 := Lib.hid (I3.out.newD)
      have q := (Q.refl z0).alloc (.cells zDid 34)
      have I3 := Lib.hid (I3.out.on q)
      have CC := Lib.hid (CC.out.on q)
      clear q
      go_simp
      obtain ⟨z29, hw⟩ : ∃ z, z = z0.alloc (.cells zDid 34) := ⟨_, rfl⟩
      rw [← hw] at I3 CC Z7
      simp only [zDid] at hw
      rw [← hw]
      obtain ⟨p7, hp⟩ : ∃ p, p = z0.heap.size := ⟨_, rfl⟩
      rw [← hp] at Z7 ⊢
      clear hw hp
      refine hK.out _ _ I3.out (fun hHeld => ?_)
      clear hK K
      (try simp only [Act.put, PS])
      refine wpAnyH_ready (rs := [2, 7]) (by kernel_rfl) (by simp) ?_
      refine (AllReadyH.cons (o := _) rfl (fun K hK => ?_) (AllReadyH.cons (o := _) rfl (fun K hK => ?_) AllReadyH.nil))
      · go_simp
        go_at_call 12
        refine (DO1.out _ _ _ _ _ _ _ CC.out.1 CC.out.2.1).mono ?_
        rintro e z30 ⟨E1a, e1a, E1b, e1b, rfl, v, q⟩
        have I3 := Lib.hid (I3.out.on q)
        have CC := Lib.hid (CC.out.on q)
        have Z7 := Lib.hid (Z7.out.on q)
        have V1 := Lib.hid v
        clear v q
        refine hK.out _ _ I3.out (fun hHeld => ?_)
        clear hK K
        (try simp only [Act.put, PS])
        refine wpAnyH_ready (rs := [5, 7]) (by kernel_rfl) (by simp) ?_
        refine (AllReadyH.cons (o := _) rfl (fun K hK => ?_) (AllReadyH.cons (o := _) rfl (fun K hK => ?_) AllReadyH.nil))
        · go_simp
          go_at_call 12
          refine (DO2.out _ _ _ _ _ _ _ CC.out.1 CC.out.2.2).mono ?_
          rintro e z31 ⟨E2a, e2a, E2b, e2b, rfl, v, q⟩
          have I3 := Lib.hid (I3.out.on q)
          have CC := Lib.hid (CC.out.on q)
          have Z7 := Lib.hid (Z7.out.on q)
          have V1 := Lib.hid (V1.out.on q)
          have V2 := Lib.hid v
          clear v q
          refine hK.out _ _ I3.out (fun hHeld => ?_)
          clear hK K
          (try simp only [Act.put, PS])
          refine wpAnyH_ready (rs := [7]) (by kernel_rfl) (by simp) ?_
          refine (AllReadyH.cons (o := _) rfl (fun K hK => ?_) AllReadyH.nil)
          have Z8 := Lib.hid (I3.out.newD)
          have NE : Hid (p7 ≠ z31.heap.size) := Lib.hid (Nat.ne_of_lt Z7.out.1.lt)
          have q := (Q.refl z31).alloc (.cells zDid 34)
          have I3 := Lib.hid (I3.out.on q)
          have CC := Lib.hid (CC.out.on q)
          have Z7 := Lib.hid (Z7.out.on q)
          have V1 := Lib.hid (V1.out.on q)
          have V2 := Lib.hid (V2.out.on q)
          clear q
          go_simp
          obtain ⟨z32, hw⟩ : ∃ z, z = z31.alloc (.cells zDid 34) := ⟨_, rfl⟩
          rw [← hw] at I3 CC Z7 V1 V2 Z8
          simp only [zDid] at hw
          rw [← hw]
          obtain ⟨p8, hp⟩ : ∃ p, p = z31.heap.size := ⟨_, rfl⟩
          rw [← hp] at Z8 NE ⊢
          clear hw hp
          refine hK.out _ _ I3.out (fun hHeld => ?_)
          clear hK K
          (try simp only [Act.put, PS])
          refine wpAnyH_ready (rs := [8]) (by kernel_rfl) (by simp) ?_
          refine (AllReadyH.cons (o := _) rfl (fun K hK => ?_) AllReadyH.nil)
          obtain ⟨⟨r0, r1, r2, r3, r4, r5, r6, r7⟩, f0, f1, f2, f3, f4, f5, f6, f7⟩ := bx_did (show Bx _ _ _ #[.string ⟨#[]⟩, .int .i64 0, .slice none 0 0, .slice none 0 0, .int .u64 0, .int .u64 0, .string ⟨#[]⟩, .int .i64 0] from Z7.out.1)
          obtain ⟨nD, gD⟩ := Z7.out.store (i := i1) (s := s1) (k := e1) V1.out
          have cm := Z7.out.calm
          have I3 := Lib.hid (I3.out.kp gD Z7.out.2)
          have CC := Lib.hid (CC.out.kp cm gD)
          have V2 := Lib.hid (V2.out.kp cm gD)
          have Z8 := Lib.hid (Z8.out.kp gD (Ne.symm NE.out))
          have LTp7 := Lib.hid Z7.out.2
          have D7 := Lib.hid nD
          clear nD gD cm Z7 V1
          go_simp
          obtain ⟨z33, hw⟩ : ∃ z, z = ((((((((z32.setCell ⟨p7, 0, none⟩ (.string d1.name)).setCell ⟨p7, 1, none⟩ (.int .i64 d1.st)).setCell ⟨p7, 2, none⟩ (.slice E1a d1.L.length e1a)).setCell ⟨p7, 3, none⟩ (.slice E1b d1.U.length e1b)).setCell ⟨p7, 4, none⟩ (.int .u64 (d1.last : Nat))).setCell ⟨p7, 5, none⟩ (.int .u64 (i1 : Nat))).setCell ⟨p7, 6, none⟩ (.string s1)).setCell ⟨p7, 7, none⟩ (.int .i64 (e1 : Nat))) := ⟨_, rfl⟩
          rw [← hw] at I3 CC V2 Z8 D7 ⊢
          clear hw r0 r1 r2 r3 r4 r5 r6 r7 f0 f1 f2 f3 f4 f5 f6 f7
          refine hK.out _ _ I3.out (fun hHeld => ?_)
          clear hK K
          (try simp only [Act.put, PS])
          refine wpAnyH_ready (rs := [9]) (by kernel_rfl) (by simp) ?_
          refine (AllReadyH.cons (o := _) rfl (fun K hK => ?_) AllReadyH.nil)
          obtain ⟨⟨r0, r1, r2, r3, r4, r5, r6, r7⟩, f0, f1, f2, f3, f4, f5, f6, f7⟩ := bx_did (show Bx _ _ _ #[.string ⟨#[]⟩, .int .i64 0, .slice none 0 0, .slice none 0 0, .int .u64 0, .int .u64 0, .string ⟨#[]⟩, .int .i64 0] from Z8.out.1)
          obtain ⟨nD, gD⟩ := Z8.out.store (i := i2) (s := s2) (k := e2) V2.out
          have cm := Z8.out.calm
          have I3 := Lib.hid (I3.out.kp gD Z8.out.2)
          have CC := Lib.hid (CC.out.kp cm gD)
          have D7 := Lib.hid (D7.out.kp cm gD NE.out)
          have LTp8 := Lib.hid Z8.out.2
          have D8 := Lib.hid nD
          clear nD gD cm Z8 V2
          go_simp
          obtain ⟨z34, hw⟩ : ∃ z, z = ((((((((z33.setCell ⟨p8, 0, none⟩ (.string d2.name)).setCell ⟨p8, 1, none⟩ (.int .i64 d2.st)).setCell ⟨p8, 2, none⟩ (.slice E2a d2.L.length e2a)).setCell ⟨p8, 3, none⟩ (.slice E2b d2.U.length e2b)).setCell ⟨p8, 4, none⟩ (.int .u64 (d2.last : Nat))).setCell ⟨p8, 5, none⟩ (.int .u64 (i2 : Nat))).setCell ⟨p8, 6, none⟩ (.string s2)).setCell ⟨p8, 7, none⟩ (.int .i64 (e2 : Nat))) := ⟨_, rfl⟩
          rw [← hw] at I3 CC D7 D8 ⊢
          clear hw r0 r1 r2 r3 r4 r5 r6 r7 f0 f1 f2 f3 f4 f5 f6 f7
          refine hK.out _ _ I3.out (fun hHeld => ?_)
          clear hK K
          (try simp only [Act.put, PS])
          refine wpAnyH_done (by kernel_rfl) ?_ _
          go_wp2_with fail
          go_meet
          exact ⟨p7, p8, rfl, rfl, In3.of I3.out CC.out, D7.out, D8.out⟩
        · have Z8 := Lib.hid (I3.out.newD)
          have NE : Hid (p7 ≠ z30.heap.size) := Lib.hid (Nat.ne_of_lt Z7.out.1.lt)
          have q := (Q.refl z30).alloc (.cells zDid 34)
          have I3 := Lib.hid (I3.out.on q)
          have CC := Lib.hid (CC.out.on q)
          have Z7 := Lib.hid (Z7.out.on q)
          have V1 := Lib.hid (V1.out.on q)
          clear q
          go_simp
          obtain ⟨z35, hw⟩ : ∃ z, z = z30.alloc (.cells zDid 34) := ⟨_, rfl⟩
          rw [← hw] at I3 CC Z7 V1 Z8
          simp only [zDid] at hw
          rw [← hw]
          obtain ⟨p8, hp⟩ : ∃ p, p = z30.heap.size := ⟨_, rfl⟩
          rw [← hp] at Z8 NE ⊢
          clear hw hp
          refine hK.out _ _ I3.out (fun hHeld => ?_)
          clear hK K
          (try simp only [Act.put, PS])
          refine wpAnyH_ready (rs := [5]) (by kernel_rfl) (by simp) ?_
          refine (AllReadyH.cons (o := _) rfl (fun K hK => ?_) AllReadyH.nil)
          go_simp
          go_at_call 12
          refine (DO2.out _ _ _ _ _ _ _ CC.out.1 CC.out.2.2).mono ?_
          rintro e z36 ⟨E2a, e2a, E2b, e2b, rfl, v, q⟩
          have I3 := Lib.hid (I3.out.on q)
          have CC := Lib.hid (CC.out.on q)
          have Z7 := Lib.hid (Z7.out.on q)
          have V1 := Lib.hid (V1.out.on q)
          have Z8 := Lib.hid (Z8.out.on q)
          have V2 := Lib.hid v
          clear v q
          refine hK.out _ _ I3.out (fun hHeld => ?_)
          clear hK K
          (try simp only [Act.put, PS])
          refine wpAnyH_ready (rs := [8]) (by kernel_rfl) (by simp) ?_
          refine (AllReadyH.cons (o := _) rfl (fun K hK => ?_) AllReadyH.nil)
          obtain ⟨⟨r0, r1, r2, r3, r4, r5, r6, r7⟩, f0, f1, f2, f3, f4, f5, f6, f7⟩ := bx_did (show Bx _ _ _ #[.string ⟨#[]⟩, .int .i64 0, .slice none 0 0, .slice none 0 0, .int .u64 0, .int .u64 0, .string ⟨#[]⟩, .int .i64 0] from Z7.out.1)
          obtain ⟨nD, gD⟩ := Z7.out.store (i := i1) (s := s1) (k := e1) V1.out
          have cm := Z7.out.calm
          have I3 := Lib.hid (I3.out.kp gD Z7.out.2)
          have CC := Lib.hid (CC.out.kp cm gD)
          have Z8 := Lib.hid (Z8.out.kp gD (Ne.symm NE.out))
          have V2 := Lib.hid (V2.out.kp cm gD)
          have LTp7 := Lib.hid Z7.out.2
          have D7 := Lib.hid nD
          clear nD gD cm Z7 V1
          go_simp
          obtain ⟨z37, hw⟩ : ∃ z, z = ((((((((z36.setCell ⟨p7, 0, none⟩ (.string d1.name)).setCell ⟨p7, 1, none⟩ (.int .i64 d1.st)).setCell ⟨p7, 2, none⟩ (.slice E1a d1.L.length e1a)).setCell ⟨p7, 3, none⟩ (.slice E1b d1.U.length e1b)).setCell ⟨p7, 4, none⟩ (.int .u64 (d1.last : Nat))).setCell ⟨p7, 5, none⟩ (.int .u64 (i1 : Nat))).setCell ⟨p7, 6, none⟩ (.string s1)).setCell ⟨p7, 7, none⟩ (.int .i64 (e1 : Nat))) := ⟨_, rfl⟩
          rw [← hw] at I3 CC Z8 V2 D7 ⊢
          clear hw r0 r1 r2 r3 r4 r5 r6 r7 f0 f1 f2 f3 f4 f5 f6 f7
          refine hK.out _ _ I3.out (fun hHeld => ?_)
          clear hK K
          (try simp only [Act.put, PS])
          refine wpAnyH_ready (rs := [9]) (by kernel_rfl) (by simp) ?_
          refine (AllReadyH.cons (o := _) rfl (fun K hK => ?_) AllReadyH.nil)
          obtain ⟨⟨r0, r1, r2, r3, r4, r5, r6, r7⟩, f0, f1, f2, f3, f4, f5, f6, f7⟩ := bx_did (show Bx _ _ _ #[.string ⟨#[]⟩, .int .i64 0, .slice none 0 0, .slice none 0 0, .int .u64 0, .int .u64 0, .string ⟨#[]⟩, .int .i64 0] from Z8.out.1)
          obtain ⟨nD, gD⟩ := Z8.out.store (i := i2) (s := s2) (k := e2) V2.out
          have cm := Z8.out.calm
          have I3 := Lib.hid (I3.out.kp gD Z8.out.2)
          have CC := Lib.hid (CC.out.kp cm gD)
          have D7 := Lib.hid (D7.out.kp cm gD NE.out)
          have LTp8 := Lib.hid Z8.out.2
          have D8 := Lib.hid nD
          clear nD gD cm Z8 V2
          go_simp
          obtain ⟨z38, hw⟩ : ∃ z, z = ((((((((z37.setCell ⟨p8, 0, none⟩ (.string d2.name)).setCell ⟨p8, 1, none⟩ (.int .i64 d2.st)).setCell ⟨p8, 2, none⟩ (.slice E2a d2.L.length e2a)).setCell ⟨p8, 3, none⟩ (.slice E2b d2.U.length e2b)).setCell ⟨p8, 4, none⟩ (.int .u64 (d2.last : Nat))).setCell ⟨p8, 5, none⟩ (.int .u64 (i2 : Nat))).setCell ⟨p8, 6, none⟩ (.string s2)).setCell ⟨p8, 7, none⟩ (.int .i64 (e2 : Nat))) := ⟨_, rfl⟩
          rw [← hw] at I3 CC D7 D8 ⊢
          clear hw r0 r1 r2 r3 r4 r5 r6 r7 f0 f1 f2 f3 f4 f5 f6 f7
          refine hK.out _ _ I3.out (fun hHeld => ?_)
          clear hK K
          (try simp only [Act.put, PS])
          refine wpAnyH_done (by kernel_rfl) ?_ _
          go_wp2_with fail
          go_meet
          exact ⟨p7, p8, rfl, rfl, In3.of I3.out CC.out, D7.out, D8.out⟩
      · have Z8 := Lib.hid (I3.out.newD)
        have NE : Hid (p7 ≠ z29.heap.size) := Lib.hid (Nat.ne_of_lt Z7.out.1.lt)
        have q := (Q.refl z29).alloc (.cells zDid 34)
        have I3 := Lib.hid (I3.out.on q)
        have CC := Lib.hid (CC.out.on q)
        have Z7 := Lib.hid (Z7.out.on q)
        clear q
        go_simp
        obtain ⟨z39, hw⟩ : ∃ z, z = z29.alloc (.cells zDid 34) := ⟨_, rfl⟩
        rw [← hw] at I3 CC Z7 Z8
        simp only [zDid] at hw
        rw [← hw]
        obtain ⟨p8, hp⟩ : ∃ p, p = z29.heap.size := ⟨_, rfl⟩
        rw [← hp] at Z8 NE ⊢
        clear hw hp
        refine hK.out _ _ I3.out (fun hHeld => ?_)
        clear hK K
        (try simp only [Act.put, PS])
        refine wpAnyH_ready (rs := [2]) (by kernel_rfl) (by simp) ?_
        refine (AllReadyH.cons (o := _) rfl (fun K hK => ?_) AllReadyH.nil)
        go_simp
        go_at_call 12
        refine (DO1.out _ _ _ _ _ _ _ CC.out.1 CC.out.2.1).mono ?_
        rintro e z40 ⟨E1a, e1a, E1b, e1b, rfl, v, q⟩
        have I3 := Lib.hid (I3.out.on q)
        have CC := Lib.hid (CC.out.on q)
        have Z7 := Lib.hid (Z7.out.on q)
        have Z8 := Lib.hid (Z8.out.on q)
        have V1 := Lib.hid v
        clear v q
        refine hK.out _ _ I3.out (fun hHeld => ?_)
        clear hK K
        (try simp only [Act.put, PS])
        refine wpAnyH_ready (rs := [5]) (by kernel_rfl) (by simp) ?_
        refine (AllReadyH.cons (o := _) rfl (fun K hK => ?_) AllReadyH.nil)
        go_simp
        go_at_call 12
        refine (DO2.out _ _ _ _ _ _ _ CC.out.1 CC.out.2.2).mono ?_
        rintro e z41 ⟨E2a, e2a, E2b, e2b, rfl, v, q⟩
        have I3 := Lib.hid (I3.out.on q)
        have CC := Lib.hid (CC.out.on q)
        have Z7 := Lib.hid (Z7.out.on q)
        have Z8 := Lib.hid (Z8.out.on q)
        have V1 := Lib.hid (V1.out.on q)
        have V2 := Lib.hid v
        clear v q
        refine hK.out _ _ I3.out (fun hHeld => ?_)
        clear hK K
        (try simp only [Act.put, PS])
        refine wpAnyH_ready (rs := [8]) (by kernel_rfl) (by simp) ?_
        refine (AllReadyH.cons (o := _) rfl (fun K hK => ?_) AllReadyH.nil)
        obtain ⟨⟨r0, r1, r2, r3, r4, r5, r6, r7⟩, f0, f1, f2, f3, f4, f5, f6, f7⟩ := bx_did (show Bx _ _ _ #[.string ⟨#[]⟩, .int .i64 0, .slice none 0 0, .slice none 0 0, .int .u64 0, .int .u64 0, .string ⟨#[]⟩, .int .i64 0] from Z7.out.1)
        obtain ⟨nD, gD⟩ := Z7.out.store (i := i1) (s := s1) (k := e1) V1.out
        have cm := Z7.out.calm
        have I3 := Lib.hid (I3.out.kp gD Z7.out.2)
        have CC := Lib.hid (CC.out.kp cm gD)
        have Z8 := Lib.hid (Z8.out.kp gD (Ne.symm NE.out))
        have V2 := Lib.hid (V2.out.kp cm gD)
        have LTp7 := Lib.hid Z7.out.2
        have D7 := Lib.hid nD
        clear nD gD cm Z7 V1
        go_simp
        obtain ⟨z42, hw⟩ : ∃ z, z = ((((((((z41.setCell ⟨p7, 0, none⟩ (.string d1.name)).setCell ⟨p7, 1, none⟩ (.int .i64 d1.st)).setCell ⟨p7, 2, none⟩ (.slice E1a d1.L.length e1a)).setCell ⟨p7, 3, none⟩ (.slice E1b d1.U.length e1b)).setCell ⟨p7, 4, none⟩ (.int .u64 (d1.last : Nat))).setCell ⟨p7, 5, none⟩ (.int .u64 (i1 : Nat))).setCell ⟨p7, 6, none⟩ (.string s1)).setCell ⟨p7, 7, none⟩ (.int .i64 (e1 : Nat))) := ⟨_, rfl⟩
        rw [← hw] at I3 CC Z8 V2 D7 ⊢
        clear hw r0 r1 r2 r3 r4 r5 r6 r7 f0 f1 f2 f3 f4 f5 f6 f7
        refine hK.out _ _ I3.out (fun hHeld => ?_)
        clear hK K
        (try simp only [Act.put, PS])
        refine wpAnyH_ready (rs := [9]) (by kernel_rfl) (by simp) ?_
        refine (AllReadyH.cons (o := _) rfl (fun K hK => ?_) AllReadyH.nil)
        obtain ⟨⟨r0, r1, r2, r3, r4, r5, r6, r7⟩, f0, f1, f2, f3, f4, f5, f6, f7⟩ := bx_did (show Bx _ _ _ #[.string ⟨#[]⟩, .int .i64 0, .slice none 0 0, .slice none 0 0, .int .u64 0, .int .u64 0, .string ⟨#[]⟩, .int .i64 0] from Z8.out.1)
        obtain ⟨nD, gD⟩ := Z8.out.store (i := i2) (s := s2) (k := e2) V2.out
        have cm := Z8.out.calm
        have I3 := Lib.hid (I3.out.kp gD Z8.out.2)
        have CC := Lib.hid (CC.out.kp cm gD)
        have D7 := Lib.hid (D7.out.kp cm gD NE.out)
        have LTp8 := Lib.hid Z8.out.2
        have D8 := Lib.hid nD
        clear nD gD cm Z8 V2
        go_simp
        obtain ⟨z43, hw⟩ : ∃ z, z = ((((((((z42.setCell ⟨p8, 0, none⟩ (.string d2.name)).setCell ⟨p8, 1, none⟩ (.int .i64 d2.st)).setCell ⟨p8, 2, none⟩ (.slice E2a d2.L.length e2a)).setCell ⟨p8, 3, none⟩ (.slice E2b d2.U.length e2b)).setCell ⟨p8, 4, none⟩ (.int .u64 (d2.last : Nat))).setCell ⟨p8, 5, none⟩ (.int .u64 (i2 : Nat))).setCell ⟨p8, 6, none⟩ (.string s2)).setCell ⟨p8, 7, none⟩ (.int .i64 (e2 : Nat))) := ⟨_, rfl⟩
        rw [← hw] at I3 CC D7 D8 ⊢
        clear hw r0 r1 r2 r3 r4 r5 r6 r7 f0 f1 f2 f3 f4 f5 f6 f7
        refine hK.out _ _ I3.out (fun hHeld => ?_)
        clear hK K
        (try simp only [Act.put, PS])
        refine wpAnyH_done (by kernel_rfl) ?_ _
        go_wp2_with fail
        go_meet
        exact ⟨p7, p8, rfl, rfl, In3.of I3.out CC.out, D7.out, D8.out⟩
    · have Z8 := Lib.hid (I3.out.newD)
      have q := (Q.refl z0).alloc (.cells zDid 34)
      have I3 := Lib.hid (I3.out.on q)
      have CC := Lib.hid (CC.out.on q)
      clear q
      go_simp
      obtain ⟨z44, hw⟩ : ∃ z, z = z0.alloc (.cells zDid 34) := ⟨_, rfl⟩
      rw [← hw] at I3 CC Z8
      simp only [zDid] at hw
      rw [← hw]
      obtain ⟨p8, hp⟩ : ∃ p, p = z0.heap.size := ⟨_, rfl⟩
      rw [← hp] at Z8 ⊢
      clear hw hp
      refine hK.out _ _ I3.out (fun hHeld => ?_)
      clear hK K
      (try simp only [Act.put, PS])
      refine wpAnyH_ready (rs := [2, 6]) (by kernel_rfl) (by simp) ?_
      refine (AllReadyH.cons (o := _) rfl (fun K hK => ?_) (AllReadyH.cons (o := _) rfl (fun K hK => ?_) AllReadyH.nil))
      · go_simp
        go_at_call 12
        refine (DO1.out _ _ _ _ _ _ _ CC.out.1 CC.out.2.1).mono ?_
        rintro e z45 ⟨E1a, e1a, E1b, e1b, rfl, v, q⟩
        have I3 := Lib.hid (I3.out.on q)
        have CC := Lib.hid (CC.out.on q)
        have Z8 := Lib.hid (Z8.out.on q)
        have V1 := Lib.hid v
        clear v q
        refine hK.out _ _ I3.out (fun hHeld => ?_)
        clear hK K
        (try simp only [Act.put, PS])
        refine wpAnyH_ready (rs := [5, 6]) (by kernel_rfl) (by simp) ?_
        refine (AllReadyH.cons (o := _) rfl (fun K hK => ?_) (AllReadyH.cons (o := _) rfl (fun K hK => ?_) AllReadyH.nil))
        · go_simp
          go_at_call 12
          refine (DO2.out _ _ _ _ _ _ _ CC.out.1 CC.out.2.2).mono ?_
          rintro e z46 ⟨E2a, e2a, E2b, e2b, rfl, v, q⟩
          have I3 := Lib.hid (I3.out.on q)
          have CC := Lib.hid (CC.out.on q)
          have Z8 := Lib.hid (Z8.out.on q)
          have V1 := Lib.hid (V1.out.on q)
          have V2 := Lib.hid v
          clear v q
          refine hK.out _ _ I3.out (fun hHeld => ?_)
          clear hK K
          (try simp only [Act.put, PS])
          refine wpAnyH_ready (rs := [6]) (by kernel_rfl) (by simp) ?_
          refine (AllReadyH.cons (o := _) rfl (fun K hK => ?_) AllReadyH.nil)
          have Z7 := Lib.hid (I3.out.newD)
          have NE : Hid (z46.heap.size ≠ p8) := Lib.hid (Nat.ne_of_gt Z8.out.1.lt)
          have q := (Q.refl z46).alloc (.cells zDid 34)
          have I3 := Lib.hid (I3.out.on q)
          have CC := Lib.hid (CC.out.on q)
          have Z8 := Lib.hid (Z8.out.on q)
          have V1 := Lib.hid (V1.out.on q)
          have V2 := Lib.hid (V2.out.on q)
          clear q
          go_simp
          obtain ⟨z47, hw⟩ : ∃ z, z = z46.alloc (.cells zDid 34) := ⟨_, rfl⟩
          rw [← hw] at I3 CC Z8 V1 V2 Z7
          simp only [zDid] at hw
          rw [← hw]
          obtain ⟨p7, hp⟩ : ∃ p, p = z46.heap.size := ⟨_, rfl⟩
          rw [← hp] at Z7 NE ⊢
          clear hw hp
          refine hK.out _ _ I3.out (fun hHeld => ?_)
          clear hK K
          (try simp only [Act.put, PS])
          refine wpAnyH_ready (rs := [8]) (by kernel_rfl) (by simp) ?_
          refine (AllReadyH.cons (o := _) rfl (fun K hK => ?_) AllReadyH.nil)
          obtain ⟨⟨r0, r1, r2, r3, r4, r5, r6, r7⟩, f0, f1, f2, f3, f4, f5, f6, f7⟩ := bx_did (show Bx _ _ _ #[.string ⟨#[]⟩, .int .i64 0, .slice none 0 0, .slice none 0 0, .int .u64 0, .int .u64 0, .string ⟨#[]⟩, .int .i64 0] from Z7.out.1)
          obtain ⟨nD, gD⟩ := Z7.out.store (i := i1) (s := s1) (k := e1) V1.out
          have cm := Z7.out.calm
          have I3 := Lib.hid (I3.out.kp gD Z7.out.2)
          have CC := Lib.hid (CC.out.kp cm gD)
          have Z8 := Lib.hid (Z8.out.kp gD (Ne.symm NE.out))
          have V2 := Lib.hid (V2.out.kp cm gD)
          have LTp7 := Lib.hid Z7.out.2
          have D7 := Lib.hid nD
          clear nD gD cm Z7 V1
          go_simp
          obtain ⟨z48, hw⟩ : ∃ z, z = ((((((((z47.setCell ⟨p7, 0, none⟩ (.string d1.name)).setCell ⟨p7, 1, none⟩ (.int .i64 d1.st)).setCell ⟨p7, 2, none⟩ (.slice E1a d1.L.length e1a)).setCell ⟨p7, 3, none⟩ (.slice E1b d1.U.length e1b)).setCell ⟨p7, 4, none⟩ (.int .u64 (d1.last : Nat))).setCell ⟨p7, 5, none⟩ (.int .u64 (i1 : Nat))).setCell ⟨p7, 6, none⟩ (.string s1)).setCell ⟨p7, 7, none⟩ (.int .i64 (e1 : Nat))) := ⟨_, rfl⟩
          rw [← hw] at I3 CC Z8 V2 D7 ⊢
          clear hw r0 r1 r2 r3 r4 r5 r6 r7 f0 f1 f2 f3 f4 f5 f6 f7
          refine hK.out _ _ I3.out (fun hHeld => ?_)
          clear hK K
          (try simp only [Act.put, PS])
          refine wpAnyH_ready (rs := [9]) (by kernel_rfl) (by simp) ?_
          refine (AllReadyH.cons (o := _) rfl (fun K hK => ?_) AllReadyH.nil)
          obtain ⟨⟨r0, r1, r2, r3, r4, r5, r6, r7⟩, f0, f1, f2, f3, f4, f5, f6, f7⟩ := bx_did (show Bx _ _ _ #[.string ⟨#[]⟩, .int .i64 0, .slice none 0 0, .slice none 0 0, .int .u64 0, .int .u64 0, .string ⟨#[]⟩, .int .i64 0] from Z8.out.1)
          obtain ⟨nD, gD⟩ := Z8.out.store (i := i2) (s := s2) (k := e2) V2.out
          have cm := Z8.out.calm
          have I3 := Lib.hid (I3.out.kp gD Z8.out.2)
          have CC := Lib.hid (CC.out.kp cm gD)
          have D7 := Lib.hid (D7.out.kp cm gD NE.out)
          have LTp8 := Lib.hid Z8.out.2
          have D8 := Lib.hid nD
          clear nD gD cm Z8 V2
          go_simp
          obtain ⟨z49, hw⟩ : ∃ z, z = ((((((((z48.setCell ⟨p8, 0, none⟩ (.string d2.name)).setCell ⟨p8, 1, none⟩ (.int .i64 d2.st)).setCell ⟨p8, 2, none⟩ (.slice E2a d2.L.length e2a)).setCell ⟨p8, 3, none⟩ (.slice E2b d2.U.length e2b)).setCell ⟨p8, 4, none⟩ (.int .u64 (d2.last : Nat))).setCell ⟨p8, 5, none⟩ (.int .u64 (i2 : Nat))).setCell ⟨p8, 6, none⟩ (.string s2)).setCell ⟨p8, 7, none⟩ (.int .i64 (e2 : Nat))) := ⟨_, rfl⟩
          rw [← hw] at I3 CC D7 D8 ⊢
          clear hw r0 r1 r2 r3 r4 r5 r6 r7 f0 f1 f2 f3 f4 f5 f6 f7
          refine hK.out _ _ I3.out (fun hHeld => ?_)
          clear hK K
          (try simp only [Act.put, PS])
          refine wpAnyH_done (by kernel_rfl) ?_ _
          go_wp2_with fail
          go_meet
          exact ⟨p7, p8, rfl, rfl, In3.of I3.out CC.out, D7.out, D8.out⟩
        · have Z7 := Lib.hid (I3.out.newD)
          have NE : Hid (z45.heap.size ≠ p8) := Lib.hid (Nat.ne_of_gt Z8.out.1.lt)
          have q := (Q.refl z45).alloc (.cells zDid 34)
          have I3 := Lib.hid (I3.out.on q)
          have CC := Lib.hid (CC.out.on q)
          have Z8 := Lib.hid (Z8.out.on q)
          have V1 := Lib.hid (V1.out.on q)
          clear q
          go_simp
          obtain ⟨z50, hw⟩ : ∃ z, z = z45.alloc (.cells zDid 34) := ⟨_, rfl⟩
          rw [← hw] at I3 CC Z8 V1 Z7
          simp only [zDid] at hw
          rw [← hw]
          obtain ⟨p7, hp⟩ : ∃ p, p = z45.heap.size := ⟨_, rfl⟩
          rw [← hp] at Z7 NE ⊢
          clear hw hp
          refine hK.out _ _ I3.out (fun hHeld => ?_)
          clear hK K
          (try simp only [Act.put, PS])
          refine wpAnyH_ready (rs := [5]) (by kernel_rfl) (by simp) ?_
          refine (AllReadyH.cons (o := _) rfl (fun K hK => ?_) AllReadyH.nil)
          go_simp
          go_at_call 12
          refine (DO2.out _ _ _ _ _ _ _ CC.out.1 CC.out.2.2).mono ?_
          rintro e z51 ⟨E2a, e2a, E2b, e2b, rfl, v, q⟩
          have I3 := Lib.hid (I3.out.on q)
          have CC := Lib.hid (CC.out.on q)
          have Z8 := Lib.hid (Z8.out.on q)
          have V1 := Lib.hid (V1.out.on q)
          have Z7 := Lib.hid (Z7.out.on q)
          have V2 := Lib.hid v
          clear v q
          refine hK.out _ _ I3.out (fun hHeld => ?_)
          clear hK K
          (try simp only [Act.put, PS])
          refine wpAnyH_ready (rs := [8]) (by kernel_rfl) (by simp) ?_
          refine (AllReadyH.cons (o := _) rfl (fun K hK => ?_) AllReadyH.nil)
          obtain ⟨⟨r0, r1, r2, r3, r4, r5, r6, r7⟩, f0, f1, f2, f3, f4, f5, f6, f7⟩ := bx_did (show Bx _ _ _ #[.string ⟨#[]⟩, .int .i64 0, .slice none 0 0, .slice none 0 0, .int .u64 0, .int .u64 0, .string ⟨#[]⟩, .int .i64 0] from Z7.out.1)
          obtain ⟨nD, gD⟩ := Z7.out.store (i := i1) (s := s1) (k := e1) V1.out
          have cm := Z7.out.calm
          have I3 := Lib.hid (I3.out.kp gD Z7.out.2)
          have CC := Lib.hid (CC.out.kp cm gD)
          have Z8 := Lib.hid (Z8.out.kp gD (Ne.symm NE.out))
          have V2 := Lib.hid (V2.out.kp cm gD)
          have LTp7 := Lib.hid Z7.out.2
          have D7 := Lib.hid nD
          clear nD gD cm Z7 V1
          go_simp
          obtain ⟨z52, hw⟩ : ∃ z, z = ((((((((z51.setCell ⟨p7, 0, none⟩ (.string d1.name)).setCell ⟨p7, 1, none⟩ (.int .i64 d1.st)).setCell ⟨p7, 2, none⟩ (.slice E1a d1.L.length e1a)).setCell ⟨p7, 3, none⟩ (.slice E1b d1.U.length e1b)).setCell ⟨p7, 4, none⟩ (.int .u64 (d1.last : Nat))).setCell ⟨p7, 5, none⟩ (.int .u64 (i1 : Nat))).setCell ⟨p7, 6, none⟩ (.string s1)).setCell ⟨p7, 7, none⟩ (.int .i64 (e1 : Nat))) := ⟨_, rfl⟩
          rw [← hw] at I3 CC Z8 V2 D7 ⊢
          clear hw r0 r1 r2 r3 r4 r5 r6 r7 f0 f1 f2 f3 f4 f5 f6 f7
          refine hK.out _ _ I3.out (fun hHeld => ?_)
          clear hK K
          (try simp only [Act.put, PS])
          refine wpAnyH_ready (rs := [9]) (by kernel_rfl) (by simp) ?_
          refine (AllReadyH.cons (o := _) rfl (fun K hK => ?_) AllReadyH.nil)
          obtain ⟨⟨r0, r1, r2, r3, r4, r5, r6, r7⟩, f0, f1, f2, f3, f4, f5, f6, f7⟩ := bx_did (show Bx _ _ _ #[.string ⟨#[]⟩, .int .i64 0, .slice none 0 0, .slice none 0 0, .int .u64 0, .int .u64 0, .string ⟨#[]⟩, .int .i64 0] from Z8.out.1)
          obtain ⟨nD, gD⟩ := Z8.out.store (i := i2) (s := s2) (k := e2) V2.out
          have cm := Z8.out.calm
          have I3 := Lib.hid (I3.out.kp gD Z8.out.2)
          have CC := Lib.hid (CC.out.kp cm gD)
          have D7 := Lib.hid (D7.out.kp cm gD NE.out)
          have LTp8 := Lib.hid Z8.out.2
          have D8 := Lib.hid nD
          clear nD gD cm Z8 V2
          go_simp
          obtain ⟨z53, hw⟩ : ∃ z, z = ((((((((z52.setCell ⟨p8, 0, none⟩ (.string d2.name)).setCell ⟨p8, 1, none⟩ (.int .i64 d2.st)).setCell ⟨p8, 2, none⟩ (.slice E2a d2.L.length e2a)).setCell ⟨p8, 3, none⟩ (.slice E2b d2.U.length e2b)).setCell ⟨p8, 4, none⟩ (.int .u64 (d2.last : Nat))).setCell ⟨p8, 5, none⟩ (.int .u64 (i2 : Nat))).setCell ⟨p8, 6, none⟩ (.string s2)).setCell ⟨p8, 7, none⟩ (.int .i64 (e2 : Nat))) := ⟨_, rfl⟩
          rw [← hw] at I3 CC D7 D8 ⊢
          clear hw r0 r1 r2 r3 r4 r5 r6 r7 f0 f1 f2 f3 f4 f5 f6 f7
          refine hK.out _ _ I3.out (fun hHeld => ?_)
          clear hK K
          (try simp only [Act.put, PS])
          refine wpAnyH_done (by kernel_rfl) ?_ _
          go_wp2_with fail
          go_meet
          exact ⟨p7, p8, rfl, rfl, In3.of I3.out CC.out, D7.out, D8.out⟩
      · have Z7 := Lib.hid (I3.out.newD)
        have NE : Hid (z44.heap.size ≠ p8) := Lib.hid (Nat.ne_of_gt Z8.out.1.lt)
        have q := (Q.refl z44).alloc (.cells zDid 34)
        have I3 := Lib.hid (I3.out.on q)
        have CC := Lib.hid (CC.out.on q)
        have Z8 := Lib.hid (Z8.out.on q)
        clear q
        go_simp
        obtain ⟨z54, hw⟩ : ∃ z, z = z44.alloc (.cells zDid 34) := ⟨_, rfl⟩
        rw [← hw] at I3 CC Z8 Z7
        simp only [zDid] at hw
        rw [← hw]
        obtain ⟨p7, hp⟩ : ∃ p, p = z44.heap.size := ⟨_, rfl⟩
        rw [← hp] at Z7 NE ⊢
        clear hw hp
        refine hK.out _ _ I3.out (fun hHeld => ?_)
        clear hK K
        (try simp only [Act.put, PS])
        refine wpAnyH_ready (rs := [2]) (by kernel_rfl) (by simp) ?_
        refine (AllReadyH.cons (o := _) rfl (fun K hK => ?_) AllReadyH.nil)
        go_simp
        go_at_call 12
        refine (DO1.out _ _ _ _ _ _ _ CC.out.1 CC.out.2.1).mono ?_
        rintro e z55 ⟨E1a, e1a, E1b, e1b, rfl, v, q⟩
        have I3 := Lib.hid (I3.out.on q)
        have CC := Lib.hid (CC.out.on q)
        have Z8 := Lib.hid (Z8.out.on q)
        have Z7 := Lib.hid (Z7.out.on q)
        have V1 := Lib.hid v
        clear v q
        refine hK.out _ _ I3.out (fun hHeld => ?_)
        clear hK K
        (try simp only [Act.put, PS])
        refine wpAnyH_ready (rs := [5]) (by kernel_rfl) (by simp) ?_
        refine (AllReadyH.cons (o := _) rfl (fun K hK => ?_) AllReadyH.nil)
        go_simp
        go_at_call 12
        refine (DO2.out _ _ _ _ _ _ _ CC.out.1 CC.out.2.2).mono ?_
        rintro e z56 ⟨E2a, e2a, E2b, e2b, rfl, v, q⟩
        have I3 := Lib.hid (I3.out.on q)
        have CC := Lib.hid (CC.out.on q)
        have Z8 := Lib.hid (Z8.out.on q)
        have Z7 := Lib.hid (Z7.out.on q)
        have V1 := Lib.hid (V1.out.on q)
        have V2 := Lib.hid v
        clear v q
        refine hK.out _ _ I3.out (fun hHeld => ?_)
        clear hK K
        (try simp only [Act.put, PS])
        refine wpAnyH_ready (rs := [8]) (by kernel_rfl) (by simp) ?_
        refine (AllReadyH.cons (o := _) rfl (fun K hK => ?_) AllReadyH.nil)
        obtain ⟨⟨r0, r1, r2, r3, r4, r5, r6, r7⟩, f0, f1, f2, f3, f4, f5, f6, f7⟩ := bx_did (show Bx _ _ _ #[.string ⟨#[]⟩, .int .i64 0, .slice none 0 0, .slice none 0 0, .int .u64 0, .int .u64 0, .string ⟨#[]⟩, .int .i64 0] from Z7.out.1)
        obtain ⟨nD, gD⟩ := Z7.out.store (i := i1) (s := s1) (k := e1) V1.out
        have cm := Z7.out.calm
        have I3 := Lib.hid (I3.out.kp gD Z7.out.2)
        have CC := Lib.hid (CC.out.kp cm gD)
        have Z8 := Lib.hid (Z8.out.kp gD (Ne.symm NE.out))
        have V2 := Lib.hid (V2.out.kp cm gD)
        have LTp7 := Lib.hid Z7.out.2
        have D7 := Lib.hid nD
        clear nD gD cm Z7 V1
        go_simp
        obtain ⟨z57, hw⟩ : ∃ z, z = ((((((((z56.setCell ⟨p7, 0, none⟩ (.string d1.name)).setCell ⟨p7, 1, none⟩ (.int .i64 d1.st)).setCell ⟨p7, 2, none⟩ (.slice E1a d1.L.length e1a)).setCell ⟨p7, 3, none⟩ (.slice E1b d1.U.length e1b)).setCell ⟨p7, 4, none⟩ (.int .u64 (d1.last : Nat))).setCell ⟨p7, 5, none⟩ (.int .u64 (i1 : Nat))).setCell ⟨p7, 6, none⟩ (.string s1)).setCell ⟨p7, 7, none⟩ (.int .i64 (e1 : Nat))) := ⟨_, rfl⟩
        rw [← hw] at I3 CC Z8 V2 D7 ⊢
        clear hw r0 r1 r2 r3 r4 r5 r6 r7 f0 f1 f2 f3 f4 f5 f6 f7
        refine hK.out _ _ I3.out (fun hHeld => ?_)
        clear hK K
        (try simp only [Act.put, PS])
        refine wpAnyH_ready (rs := [9]) (by kernel_rfl) (by simp) ?_
        refine (AllReadyH.cons (o := _) rfl (fun K hK => ?_) AllReadyH.nil)
        obtain ⟨⟨r0, r1, r2, r3, r4, r5, r6, r7⟩, f0, f1, f2, f3, f4, f5, f6, f7⟩ := bx_did (show Bx _ _ _ #[.string ⟨#[]⟩, .int .i64 0, .slice none 0 0, .slice none 0 0, .int .u64 0, .int .u64 0, .string ⟨#[]⟩, .int .i64 0] from Z8.out.1)
        obtain ⟨nD, gD⟩ := Z8.out.store (i := i2) (s := s2) (k := e2) V2.out
        have cm := Z8.out.calm
        have I3 := Lib.hid (I3.out.kp gD Z8.out.2)
        have CC := Lib.hid (CC.out.kp cm gD)
        have D7 := Lib.hid (D7.out.kp cm gD NE.out)
        have LTp8 := Lib.hid Z8.out.2
        have D8 := Lib.hid nD
        clear nD gD cm Z8 V2
        go_simp
        obtain ⟨z58, hw⟩ : ∃ z, z = ((((((((z57.setCell ⟨p8, 0, none⟩ (.string d2.name)).setCell ⟨p8, 1, none⟩ (.int .i64 d2.st)).setCell ⟨p8, 2, none⟩ (.slice E2a d2.L.length e2a)).setCell ⟨p8, 3, none⟩ (.slice E2b d2.U.length e2b)).setCell ⟨p8, 4, none⟩ (.int .u64 (d2.last : Nat))).setCell ⟨p8, 5, none⟩ (.int .u64 (i2 : Nat))).setCell ⟨p8, 6, none⟩ (.string s2)).setCell ⟨p8, 7, none⟩ (.int .i64 (e2 : Nat))) := ⟨_, rfl⟩
        rw [← hw] at I3 CC D7 D8 ⊢
        clear hw r0 r1 r2 r3 r4 r5 r6 r7 f0 f1 f2 f3 f4 f5 f6 f7
        refine hK.out _ _ I3.out (fun hHeld => ?_)
        clear hK K
        (try simp only [Act.put, PS])
        refine wpAnyH_done (by kernel_rfl) ?_ _
        go_wp2_with fail
        go_meet
        exact ⟨p7, p8, rfl, rfl, In3.of I3.out CC.out, D7.out, D8.out⟩
  case rest =>
    obtain ⟨p7, p8, rfl, rfl, K7⟩ := hcut
    rename World => wa
    obtain ⟨B5, b5, B6, b6, B7, b7, B8, b8, E1a, g1a, E1b, g1b, E2a, g2a, E2b, g2b, S0, C0⟩ := K7.parts
    have I3 := Lib.hid (S0.on (Q.refl wa).drew)
    have CC := Lib.hid (C0.on (Q.refl wa).drew)
    clear S0 C0 K7 DO1 DO2
    go_upto_region 5 with fail
    go_cut [9, 10] from 57 to 64 (fun V9 V10 wx => ∃ p9 p10, V9 = .pointer (some ⟨p9, 0, none⟩) ∧ V10 = .pointer (some ⟨p10, 0, none⟩) ∧ In5 w wx B X Y p7 d1 i1 s1 e1 p8 d2 i2 s2 e2 ∧ BoxD wx p9 d3 i3 s3 e3 ∧ BoxD wx p10 d4 i4 s4 e4)
    case first =>
      refine wp_region_held_drew (S := fun z => S5 w z B X Y (.slice B5 B.L.length b5) (.slice B6 B.U.length b6) (.slice B7 X.P.length b7) (.slice B8 Y.P.length b8) p7 d1 (.slice E1a d1.L.length g1a) (.slice E1b d1.U.length g1b) i1 s1 e1 p8 d2 (.slice E2a d2.L.length g2a) (.slice E2b d2.U.length g2b) i2 s2 e2) (by kernel_rfl) I3.out (fun hHeld => ?_)
      obtain ⟨z0, hz0⟩ : ∃ z, z = wa.drew := ⟨_, rfl⟩
      rw [← hz0] at I3 CC ⊢
      clear hz0
      refine wpAnyH_take (i := 0) (oi := _) (v := ?_) rfl (by kernel_rfl) (by kernel_rfl) (by kernel_rfl) (fun _ _ _ h => h) (Or.inl ⟨by rfl, ?_⟩) (by exact I3.out) ?_
      rotate_left
      · (intro wx hSw; skip; go_simp; (try with_reducible rfl))
      (try simp only [Act.put, PS])
      refine wpAnyH_take (i := 1) (oi := _) (v := ?_) rfl (by kernel_rfl) (by kernel_rfl) (by kernel_rfl) (fun _ _ _ h => h) (Or.inl ⟨by rfl, ?_⟩) (by exact I3.out) ?_
      rotate_left
      · (intro wx hSw; obtain ⟨⟨hz0, hz1, hz2, hz3, hz4, hz5, hz6, hz7⟩, -⟩ := bx_did hSw.2.1; go_simp; (try with_reducible rfl))
      (try simp only [Act.put, PS])
      refine wpAnyH_take (i := 2) (oi := _) (v := ?_) rfl (by kernel_rfl) (by kernel_rfl) (by kernel_rfl) (fun _ _ _ h => h) (Or.inl ⟨by rfl, ?_⟩) (by exact I3.out) ?_
      rotate_left
      · (intro wx hSw; obtain ⟨⟨hz0, hz1, hz2, hz3, hz4, hz5, hz6⟩, -⟩ := bx_act hSw.1.2.2.1; go_simp; (try with_reducible rfl))
      (try simp only [Act.put, PS])
      refine wpAnyH_take (i := 4) (oi := _) (v := ?_) rfl (by kernel_rfl) (by kernel_rfl) (by kernel_rfl) (fun _ _ _ h => h) (Or.inl ⟨by rfl, ?_⟩) (by exact I3.out) ?_
      rotate_left
      · (intro wx hSw; skip; go_simp; (try with_reducible rfl))
      (try simp only [Act.put, PS])
      refine wpAnyH_take (i := 5) (oi := _) (v := ?_) rfl (by kernel_rfl) (by kernel_rfl) (by kernel_rfl) (fun _ _ _ h => h) (Or.inl ⟨by rfl, ?_⟩) (by exact I3.out) ?_
      rotate_left
      · (intro wx hSw; obtain ⟨⟨hz0, hz1, hz2, hz3, hz4, hz5, hz6, hz7⟩, -⟩ := bx_did hSw.2.2; go_simp; (try with_reducible rfl))
      (try simp only [Act.put, PS])
      refine wpAnyH_take (i := 6) (oi := _) (v := ?_) rfl (by kernel_rfl) (by kernel_rfl) (by kernel_rfl) (fun _ _ _ h => h) (Or.inl ⟨by rfl, ?_⟩) (by exact I3.out) ?_
      rotate_left
      · (intro wx hSw; obtain ⟨⟨hz0, hz1, hz2, hz3, hz4, hz5, hz6⟩, -⟩ := bx_act hSw.1.2.1; go_simp; (try with_reducible rfl))
      (try simp only [Act.put, PS])
      refine wpAnyH_ready (rs := [3, 8, 9]) (by kernel_rfl) (by simp) ?_
      refine (AllReadyH.cons (o := _) rfl (fun K hK => ?_) (AllReadyH.cons (o := _) rfl (fun K hK => ?_) (AllReadyH.cons (o := _) rfl (fun K hK => ?_) AllReadyH.nil)))
      · go_simp
        go_at_call 12
        refine (DO3.out _ _ _ _ _ _ _ CC.out.2.1 CC.out.1.2.2).mono ?_
        rintro e z1 ⟨E3a, e3a, E3b, e3b, rfl, v, q⟩
        have I3 := Lib.hid (I3.out.on q)
        have CC := Lib.hid (CC.out.on q)
        have V3 := Lib.hid v
        clear v q
        refine hK.out _ _ I3.out (fun hHeld => ?_)
        clear hK K
        (try simp only [Act.put, PS])
        refine wpAnyH_ready (rs := [7, 8, 9]) (by kernel_rfl) (by simp) ?_
        refine (AllReadyH.cons (o := _) rfl (fun K hK => ?_) (AllReadyH.cons (o := _) rfl (fun K hK => ?_) (AllReadyH.cons (o := _) rfl (fun K hK => ?_) AllReadyH.nil)))
        · go_simp
          go_at_call 12
          refine (DO4.out _ _ _ _ _ _ _ CC.out.2.2 CC.out.1.2.1).mono ?_
          rintro e z2 ⟨E4a, e4a, E4b, e4b, rfl, v, q⟩
          have I3 := Lib.hid (I3.out.on q)
          have CC := Lib.hid (CC.out.on q)
          have V3 := Lib.hid (V3.out.on q)
          have V4 := Lib.hid v
          clear v q
          refine hK.out _ _ I3.out (fun hHeld => ?_)
          clear hK K
          (try simp only [Act.put, PS])
          refine wpAnyH_ready (rs := [8, 9]) (by kernel_rfl) (by simp) ?_
          refine (AllReadyH.cons (o := _) rfl (fun K hK => ?_) (AllReadyH.cons (o := _) rfl (fun K hK => ?_) AllReadyH.nil))
          · have Z9 := Lib.hid (I3.out.1.newD)
            have N97 : Hid (p7 ≠ z2.heap.size) := Lib.hid (Nat.ne_of_lt I3.out.2.1.lt)
            have N98 : Hid (p8 ≠ z2.heap.size) := Lib.hid (Nat.ne_of_lt I3.out.2.2.lt)
            have q := (Q.refl z2).alloc (.cells zDid 34)
            have I3 := Lib.hid (I3.out.on q)
            have CC := Lib.hid (CC.out.on q)
            have V3 := Lib.hid (V3.out.on q)
            have V4 := Lib.hid (V4.out.on q)
            clear q
            go_simp
            obtain ⟨z3, hw⟩ : ∃ z, z = z2.alloc (.cells zDid 34) := ⟨_, rfl⟩
            rw [← hw] at I3 CC V3 V4 Z9
            simp only [zDid] at hw
            rw [← hw]
            obtain ⟨p9, hp⟩ : ∃ p, p = z2.heap.size := ⟨_, rfl⟩
            rw [← hp] at Z9 N97 N98 ⊢
            clear hw hp
            refine hK.out _ _ I3.out (fun hHeld => ?_)
            clear hK K
            (try simp only [Act.put, PS])
            refine wpAnyH_ready (rs := [9]) (by kernel_rfl) (by simp) ?_
            refine (AllReadyH.cons (o := _) rfl (fun K hK => ?_) AllReadyH.nil)
            have Z10 := Lib.hid (I3.out.1.newD)
            have NE : Hid (p9 ≠ z3.heap.size) := Lib.hid (Nat.ne_of_lt Z9.out.1.lt)
            have N107 : Hid (p7 ≠ z3.heap.size) := Lib.hid (Nat.ne_of_lt I3.out.2.1.lt)
            have N108 : Hid (p8 ≠ z3.heap.size) := Lib.hid (Nat.ne_of_lt I3.out.2.2.lt)
            have q := (Q.refl z3).alloc (.cells zDid 34)
            have I3 := Lib.hid (I3.out.on q)
            have CC := Lib.hid (CC.out.on q)
            have V3 := Lib.hid (V3.out.on q)
            have V4 := Lib.hid (V4.out.on q)
            have Z9 := Lib.hid (Z9.out.on q)
            clear q
            go_simp
            obtain ⟨z4, hw⟩ : ∃ z, z = z3.alloc (.cells zDid 34) := ⟨_, rfl⟩
            rw [← hw] at I3 CC V3 V4 Z9 Z10
            simp only [zDid] at hw
            rw [← hw]
            obtain ⟨p10, hp⟩ : ∃ p, p = z3.heap.size := ⟨_, rfl⟩
            rw [← hp] at Z10 NE N107 N108 ⊢
            clear hw hp
            refine hK.out _ _ I3.out (fun hHeld => ?_)
            clear hK K
            (try simp only [Act.put, PS])
            refine wpAnyH_ready (rs := [10]) (by kernel_rfl) (by simp) ?_
            refine (AllReadyH.cons (o := _) rfl (fun K hK => ?_) AllReadyH.nil)
            obtain ⟨⟨r0, r1, r2, r3, r4, r5, r6, r7⟩, f0, f1, f2, f3, f4, f5, f6, f7⟩ := bx_did (show Bx _ _ _ #[.string ⟨#[]⟩, .int .i64 0, .slice none 0 0, .slice none 0 0, .int .u64 0, .int .u64 0, .string ⟨#[]⟩, .int .i64 0] from Z9.out.1)
            obtain ⟨nD, gD⟩ := Z9.out.store (i := i3) (s := s3) (k := e3) V3.out
            have cm := Z9.out.calm
            have I3 := Lib.hid (I3.out.kp gD Z9.out.2 N97.out N98.out)
            have CC := Lib.hid (CC.out.kp cm gD)
            have V4 := Lib.hid (V4.out.kp cm gD)
            have Z10 := Lib.hid (Z10.out.kp gD (Ne.symm NE.out))
            have LTp9 := Lib.hid Z9.out.2
            have D9 := Lib.hid nD
            clear nD gD cm Z9 V3
            go_simp
            obtain ⟨z5, hw⟩ : ∃ z, z = ((((((((z4.setCell ⟨p9, 0, none⟩ (.string d3.name)).setCell ⟨p9, 1, none⟩ (.int .i64 d3.st)).setCell ⟨p9, 2, none⟩ (.slice E3a d3.L.length e3a)).setCell ⟨p9, 3, none⟩ (.slice E3b d3.U.length e3b)).setCell ⟨p9, 4, none⟩ (.int .u64 (d3.last : Nat))).setCell ⟨p9, 5, none⟩ (.int .u64 (i3 : Nat))).setCell ⟨p9, 6, none⟩ (.string s3)).setCell ⟨p9, 7, none⟩ (.int .i64 (e3 : Nat))) := ⟨_, rfl⟩
            rw [← hw] at I3 CC V4 Z10 D9 ⊢
            clear hw r0 r1 r2 r3 r4 r5 r6 r7 f0 f1 f2 f3 f4 f5 f6 f7
            refine hK.out _ _ I3.out (fun hHeld => ?_)
            clear hK K
            (try simp only [Act.put, PS])
            refine wpAnyH_ready (rs := [11]) (by kernel_rfl) (by simp) ?_
            refine (AllReadyH.cons (o := _) rfl (fun K hK => ?_) AllReadyH.nil)
            obtain ⟨⟨r0, r1, r2, r3, r4, r5, r6, r7⟩, f0, f1, f2, f3, f4, f5, f6, f7⟩ := bx_did (show Bx _ _ _ #[.string ⟨#[]⟩, .int .i64 0, .slice none 0 0, .slice none 0 0, .int .u64 0, .int .u64 0, .string ⟨#[]⟩, .int .i64 0] from Z10.out.1)
            obtain ⟨nD, gD⟩ := Z10.out.store (i := i4) (s := s4) (k := e4) V4.out
            have cm := Z10.out.calm
            have I3 := Lib.hid (I3.out.kp gD Z10.out.2 N107.out N108.out)
            have CC := Lib.hid (CC.out.kp cm gD)
            have D9 := Lib.hid (D9.out.kp cm gD NE.out)
            have LTp10 := Lib.hid Z10.out.2
            have D10 := Lib.hid nD
            clear nD gD cm Z10 V4
            go_simp
            obtain ⟨z6, hw⟩ : ∃ z, z = ((((((((z5.setCell ⟨p10, 0, none⟩ (.string d4.name)).setCell ⟨p10, 1, none⟩ (.int .i64 d4.st)).setCell ⟨p10, 2, none⟩ (.slice E4a d4.L.length e4a)).setCell ⟨p10, 3, none⟩ (.slice E4b d4.U.length e4b)).setCell ⟨p10, 4, none⟩ (.int .u64 (d4.last : Nat))).setCell ⟨p10, 5, none⟩ (.int .u64 (i4 : Nat))).setCell ⟨p10, 6, none⟩ (.string s4)).setCell ⟨p10, 7, none⟩ (.int .i64 (e4 : Nat))) := ⟨_, rfl⟩
            rw [← hw] at I3 CC D9 D10 ⊢
            clear hw r0 r1 r2 r3 r4 r5 r6 r7 f0 f1 f2 f3 f4 f5 f6 f7
            refine hK.out _ _ I3.out (fun hHeld => ?_)
            clear hK K
            (try simp only [Act.put, PS])
            refine wpAnyH_done (by kernel_rfl) ?_ _
            go_wp2_with fail
            go_meet
            exact ⟨p9, p10, rfl, rfl, In5.of I3.out CC.out, D9.out, D10.out⟩
          · have Z10 := Lib.hid (I3.out.1.newD)
            have N107 : Hid (p7 ≠ z2.heap.size) := Lib.hid (Nat.ne_of_lt I3.out.2.1.lt)
            have N108 : Hid (p8 ≠ z2.heap.size) := Lib.hid (Nat.ne_of_lt I3.out.2.2.lt)
            have q := (Q.refl z2).alloc (.cells zDid 34)
            have I3 := Lib.hid (I3.out.on q)
            have CC := Lib.hid (CC.out.on q)
            have V3 := Lib.hid (V3.out.on q)
            have V4 := Lib.hid (V4.out.on q)
            clear q
            go_simp
            obtain ⟨z7, hw⟩ : ∃ z, z = z2.alloc (.cells zDid 34) := ⟨_, rfl⟩
            rw [← hw] at I3 CC V3 V4 Z10
            simp only [zDid] at hw
            rw [← hw]
            obtain ⟨p10, hp⟩ : ∃ p, p = z2.heap.size := ⟨_, rfl⟩
            rw [← hp] at Z10 N107 N108 ⊢
            clear hw hp
            refine hK.out _ _ I3.out (fun hHeld => ?_)
            clear hK K
            (try simp only [Act.put, PS])
            refine wpAnyH_ready (rs := [8]) (by kernel_rfl) (by simp) ?_
            refine (AllReadyH.cons (o := _) rfl (fun K hK => ?_) AllReadyH.nil)
            have Z9 := Lib.hid (I3.out.1.newD)
            have NE : Hid (z7.heap.size ≠ p10) := Lib.hid (Nat.ne_of_gt Z10.out.1.lt)
            have N97 : Hid (p7 ≠ z7.heap.size) := Lib.hid (Nat.ne_of_lt I3.out.2.1.lt)
            have N98 : Hid (p8 ≠ z7.heap.size) := Lib.hid (Nat.ne_of_lt I3.out.2.2.lt)
            have q := (Q.refl z7).alloc (.cells zDid 34)
            have I3 := Lib.hid (I3.out.on q)
            have CC := Lib.hid (CC.out.on q)
            have V3 := Lib.hid (V3.out.on q)
            have V4 := Lib.hid (V4.out.on q)
            have Z10 := Lib.hid (Z10.out.on q)
            clear q
            go_simp
            obtain ⟨z8, hw⟩ : ∃ z, z = z7.alloc (.cells zDid 34) := ⟨_, rfl⟩
            rw [← hw] at I3 CC V3 V4 Z10 Z9
            simp only [zDid] at hw
            rw [← hw]
            obtain ⟨p9, hp⟩ : ∃ p, p = z7.heap.size := ⟨_, rfl⟩
            rw [← hp] at Z9 NE N97 N98 ⊢
            clear hw hp
            refine hK.out _ _ I3.out (fun hHeld => ?_)
            clear hK K
            (try simp only [Act.put, PS])
            refine wpAnyH_ready (rs := [10]) (by kernel_rfl) (by simp) ?_
            refine (AllReadyH.cons (o := _) rfl (fun K hK => ?_) AllReadyH.nil)
            obtain ⟨⟨r0, r1, r2, r3, r4, r5, r6, r7⟩, f0, f1, f2, f3, f4, f5, f6, f7⟩ := bx_did (show Bx _ _ _ #[.string ⟨#[]⟩, .int .i64 0, .slice none 0 0, .slice none 0 0, .int .u64 0, .int .u64 0, .string ⟨#[]⟩, .int .i64 0] from Z9.out.1)
            obtain ⟨nD, gD⟩ := Z9.out.store (i := i3) (s := s3) (k := e3) V3.out
            have cm := Z9.out.calm
            have I3 := Lib.hid (I3.out.kp gD Z9.out.2 N97.out N98.out)
            have CC := Lib.hid (CC.out.kp cm gD)
            have V4 := Lib.hid (V4.out.kp cm gD)
            have Z10 := Lib.hid (Z10.out.kp gD (Ne.symm NE.out))
            have LTp9 := Lib.hid Z9.out.2
            have D9 := Lib.hid nD
            clear nD gD cm Z9 V3
            go_simp
            obtain ⟨z9, hw⟩ : ∃ z, z = ((((((((z8.setCell ⟨p9, 0, none⟩ (.string d3.name)).setCell ⟨p9, 1, none⟩ (.int .i64 d3.st)).setCell ⟨p9, 2, none⟩ (.slice E3a d3.L.length e3a)).setCell ⟨p9, 3, none⟩ (.slice E3b d3.U.length e3b)).setCell ⟨p9, 4, none⟩ (.int .u64 (d3.last : Nat))).setCell ⟨p9, 5, none⟩ (.int .u64 (i3 : Nat))).setCell ⟨p9, 6, none⟩ (.string s3)).setCell ⟨p9, 7, none⟩ (.int .i64 (e3 : Nat))) := ⟨_, rfl⟩
            rw [← hw] at I3 CC V4 Z10 D9 ⊢
            clear hw r0 r1 r2 r3 r4 r5 r6 r7 f0 f1 f2 f3 f4 f5 f6 f7
            refine hK.out _ _ I3.out (fun hHeld => ?_)
            clear hK K
            (try simp only [Act.put, PS])
            refine wpAnyH_ready (rs := [11]) (by kernel_rfl) (by simp) ?_
            refine (AllReadyH.cons (o := _) rfl (fun K hK => ?_) AllReadyH.nil)
            obtain ⟨⟨r0, r1, r2, r3, r4, r5, r6, r7⟩, f0, f1, f2, f3, f4, f5, f6, f7⟩ := bx_did (show Bx _ _ _ #[.string ⟨#[]⟩, .int .i64 0, .slice none 0 0, .slice none 0 0, .int .u64 0, .int .u64 0, .string ⟨#[]⟩, .int .i64 0] from Z10.out.1)
            obtain ⟨nD, gD⟩ := Z10.out.store (i := i4) (s := s4) (k := e4) V4.out
            have cm := Z10.out.calm
            have I3 := Lib.hid (I3.out.kp gD Z10.out.2 N107.out N108.out)
            have CC := Lib.hid (CC.out.kp cm gD)
            have D9 := Lib.hid (D9.out.kp cm gD NE.out)
            have LTp10 := Lib.hid Z10.out.2
            have D10 := Lib.hid nD
            clear nD gD cm Z10 V4
            go_simp
            obtain ⟨z10, hw⟩ : ∃ z, z = ((((((((z9.setCell ⟨p10, 0, none⟩ (.string d4.name)).setCell ⟨p10, 1, none⟩ (.int .i64 d4.st)).setCell ⟨p10, 2, none⟩ (.slice E4a d4.L.length e4a)).setCell ⟨p10, 3, none⟩ (.slice E4b d4.U.length e4b)).setCell ⟨p10, 4, none⟩ (.int .u64 (d4.last : Nat))).setCell ⟨p10, 5, none⟩ (.int .u64 (i4 : Nat))).setCell ⟨p10, 6, none⟩ (.string s4)).setCell ⟨p10, 7, none⟩ (.int .i64 (e4 : Nat))) := ⟨_, rfl⟩
            rw [← hw] at I3 CC D9 D10 ⊢
            clear hw r0 r1 r2 r3 r4 r5 r6 r7 f0 f1 f2 f3 f4 f5 f6 f7
            refine hK.out _ _ I3.out (fun hHeld => ?_)
            clear hK K
            (try simp only [Act.put, PS])
            refine wpAnyH_done (by kernel_rfl) ?_ _
            go_wp2_with fail
            go_meet
            exact ⟨p9, p10, rfl, rfl, In5.of I3.out CC.out, D9.out, D10.out⟩
        · have Z9 := Lib.hid (I3.out.1.newD)
          have N97 : Hid (p7 ≠ z1.heap.size) := Lib.hid (Nat.ne_of_lt I3.out.2.1.lt)
          have N98 : Hid (p8 ≠ z1.heap.size) := Lib.hid (Nat.ne_of_lt I3.out.2.2.lt)
          have q := (Q.refl z1).alloc (.cells zDid 34)
          have I3 := Lib.hid (I3.out.on q)
          have CC := Lib.hid (CC.out.on q)
          have V3 := Lib.hid (V3.out.on q)
          clear q
          go_simp
          obtain ⟨z11, hw⟩ : ∃ z, z = z1.alloc (.cells zDid 34) := ⟨_, rfl⟩
          rw [← hw] at I3 CC V3 Z9
          simp only [zDid] at hw
          rw [← hw]
          obtain ⟨p9, hp⟩ : ∃ p, p = z1.heap.size := ⟨_, rfl⟩
          rw [← hp] at Z9 N97 N98 ⊢
          clear hw hp
          refine hK.out _ _ I3.out (fun hHeld => ?_)
          clear hK K
          (try simp only [Act.put, PS])
          refine wpAnyH_ready (rs := [7, 9]) (by kernel_rfl) (by simp) ?_
          refine (AllReadyH.cons (o := _) rfl (fun K hK => ?_) (AllReadyH.cons (o := _) rfl (fun K hK => ?_) AllReadyH.nil))
          · go_simp
            go_at_call 12
            refine (DO4.out _ _ _ _ _ _ _ CC.out.2.2 CC.out.1.2.1).mono ?_
            rintro e z12 ⟨E4a, e4a, E4b, e4b, rfl, v, q⟩
            have I3 := Lib.hid (I3.out.on q)
            have CC := Lib.hid (CC.out.on q)
            have V3 := Lib.hid (V3.out.on q)
            have Z9 := Lib.hid (Z9.out.on q)
            have V4 := Lib.hid v
            clear v q
            refine hK.out _ _ I3.out (fun hHeld => ?_)
            clear hK K
            (try simp only [Act.put, PS])
            refine wpAnyH_ready (rs := [9]) (by kernel_rfl) (by simp) ?_
            refine (AllReadyH.cons (o := _) rfl (fun K hK => ?_) AllReadyH.nil)
            have Z10 := Lib.hid (I3.out.1.newD)
            have NE : Hid (p9 ≠ z12.heap.size) := Lib.hid (Nat.ne_of_lt Z9.out.1.lt)
            have N107 : Hid (p7 ≠ z12.heap.size) := Lib.hid (Nat.ne_of_lt I3.out.2.1.lt)
            have N108 : Hid (p8 ≠ z12.heap.size) := Lib.hid (Nat.ne_of_lt I3.out.2.2.lt)
            have q := (Q.refl z12).alloc (.cells zDid 34)
            have I3 := Lib.hid (I3.out.on q)
            have CC := Lib.hid (CC.out.on q)
            have V3 := Lib.hid (V3.out.on q)
            have Z9 := Lib.hid (Z9.out.on q)
            have V4 := Lib.hid (V4.out.on q)
            clear q
            go_simp
            obtain ⟨z13, hw⟩ : ∃ z, z = z12.alloc (.cells zDid 34) := ⟨_, rfl⟩
            rw [← hw] at I3 CC V3 Z9 V4 Z10
            simp only [zDid] at hw
            rw [← hw]
            obtain ⟨p10, hp⟩ : ∃ p, p = z12.heap.size := ⟨_, rfl⟩
            rw [← hp] at Z10 NE N107 N108 ⊢
            clear hw hp
            refine hK.out _ _ I3.out (fun hHeld => ?_)
            clear hK K
            (try simp only [Act.put, PS])
            refine wpAnyH_ready (rs := [10]) (by kernel_rfl) (by simp) ?_
            refine (AllReadyH.cons (o := _) rfl (fun K hK => ?_) AllReadyH.nil)
            obtain ⟨⟨r0, r1, r2, r3, r4, r5, r6, r7⟩, f0, f1, f2, f3, f4, f5, f6, f7⟩ := bx_did (show Bx _ _ _ #[.string ⟨#[]⟩, .int .i64 0, .slice none 0 0, .slice none 0 0, .int .u64 0, .int .u64 0, .string ⟨#[]⟩, .int .i64 0] from Z9.out.1)
            obtain ⟨nD, gD⟩ := Z9.out.store (i := i3) (s := s3) (k := e3) V3.out
            have cm := Z9.out.calm
            have I3 := Lib.hid (I3.out.kp gD Z9.out.2 N97.out N98.out)
            have CC := Lib.hid (CC.out.kp cm gD)
            have V4 := Lib.hid (V4.out.kp cm gD)
            have Z10 := Lib.hid (Z10.out.kp gD (Ne.symm NE.out))
            have LTp9 := Lib.hid Z9.out.2
            have D9 := Lib.hid nD
            clear nD gD cm Z9 V3
            go_simp
            obtain ⟨z14, hw⟩ : ∃ z, z = ((((((((z13.setCell ⟨p9, 0, none⟩ (.string d3.name)).setCell ⟨p9, 1, none⟩ (.int .i64 d3.st)).setCell ⟨p9, 2, none⟩ (.slice E3a d3.L.length e3a)).setCell ⟨p9, 3, none⟩ (.slice E3b d3.U.length e3b)).setCell ⟨p9, 4, none⟩ (.int .u64 (d3.last : Nat))).setCell ⟨p9, 5, none⟩ (.int .u64 (i3 : Nat))).setCell ⟨p9, 6, none⟩ (.string s3)).setCell ⟨p9, 7, none⟩ (.int .i64 (e3 : Nat))) := ⟨_, rfl⟩
            rw [← hw] at I3 CC V4 Z10 D9 ⊢
            clear hw r0 r1 r2 r3 r4 r5 r6 r7 f0 f1 f2 f3 f4 f5 f6 f7
            refine hK.out _ _ I3.out (fun hHeld => ?_)
            clear hK K
            (try simp only [Act.put, PS])
            refine wpAnyH_ready (rs := [11]) (by kernel_rfl) (by simp) ?_
            refine (AllReadyH.cons (o := _) rfl (fun K hK => ?_) AllReadyH.nil)
            obtain ⟨⟨r0, r1, r2, r3, r4, r5, r6, r7⟩, f0, f1, f2, f3, f4, f5, f6, f7⟩ := bx_did (show Bx _ _ _ #[.string ⟨#[]⟩, .int .i64 0, .slice none 0 0, .slice none 0 0, .int .u64 0, .int .u64 0, .string ⟨#[]⟩, .int .i64 0] from Z10.out.1)
            obtain ⟨nD, gD⟩ := Z10.out.store (i := i4) (s := s4) (k := e4) V4.out
            have cm := Z10.out.calm
            have I3 := Lib.hid (I3.out.kp gD Z10.out.2 N107.out N108.out)
            have CC := Lib.hid (CC.out.kp cm gD)
            have D9 := Lib.hid (D9.out.kp cm gD NE.out)
            have LTp10 := Lib.hid Z10.out.2
            have D10 := Lib.hid nD
            clear nD gD cm Z10 V4
            go_simp
            obtain ⟨z15, hw⟩ : ∃ z, z = ((((((((z14.setCell ⟨p10, 0, none⟩ (.string d4.name)).setCell ⟨p10, 1, none⟩ (.int .i64 d4.st)).setCell ⟨p10, 2, none⟩ (.slice E4a d4.L.length e4a)).setCell ⟨p10, 3, none⟩ (.slice E4b d4.U.length e4b)).setCell ⟨p10, 4, none⟩ (.int .u64 (d4.last : Nat))).setCell ⟨p10, 5, none⟩ (.int .u64 (i4 : Nat))).setCell ⟨p10, 6, none⟩ (.string s4)).setCell ⟨p10, 7, none⟩ (.int .i64 (e4 : Nat))) := ⟨_, rfl⟩
            rw [← hw] at I3 CC D9 D10 ⊢
            clear hw r0 r1 r2 r3 r4 r5 r6 r7 f0 f1 f2 f3 f4 f5 f6 f7
            refine hK.out _ _ I3.out (fun hHeld => ?_)
            clear hK K
            (try simp only [Act.put, PS])
            refine wpAnyH_done (by kernel_rfl) ?_ _
            go_wp2_with fail
            go_meet
            exact ⟨p9, p10, rfl, rfl, In5.of I3.out CC.out, D9.out, D10.out⟩
          · have Z10 := Lib.hid (I3.out.1.newD)
            have NE : Hid (p9 ≠ z11.heap.size) := Lib.hid (Nat.ne_of_lt Z9.out.1.lt)
            have N107 : Hid (p7 ≠ z11.heap.size) := Lib.hid (Nat.ne_of_lt I3.out.2.1.lt)
            have N108 : Hid (p8 ≠ z11.heap.size) := Lib.hid (Nat.ne_of_lt I3.out.2.2.lt)
            have q := (Q.refl z11).alloc (.cells zDid 34)
            have I3 := Lib.hid (I3.out.on q)
            have CC := Lib.hid (CC.out.on q)
            have V3 := Lib.hid (V3.out.on q)
            have Z9 := Lib.hid (Z9.out.on q)
            clear q
            go_simp
            obtain ⟨z16, hw⟩ : ∃ z, z = z11.alloc (.cells zDid 34) := ⟨_, rfl⟩
            rw [← hw] at I3 CC V3 Z9 Z10
            simp only [zDid] at hw
            rw [← hw]
            obtain ⟨p10, hp⟩ : ∃ p, p = z11.heap.size := ⟨_, rfl⟩
            rw [← hp] at Z10 NE N107 N108 ⊢
            clear hw hp
            refine hK.out _ _ I3.out (fun hHeld => ?_)
            clear hK K
            (try simp only [Act.put, PS])
            refine wpAnyH_ready (rs := [7]) (by kernel_rfl) (by simp) ?_
            refine (AllReadyH.cons (o := _) rfl (fun K hK => ?_) AllReadyH.nil)
            go_simp
            go_at_call 12
            refine (DO4.out _ _ _ _ _ _ _ CC.out.2.2 CC.out.1.2.1).mono ?_
            rintro e z17 ⟨E4a, e4a, E4b, e4b, rfl, v, q⟩
            have I3 := Lib.hid (I3.out.on q)
            have CC := Lib.hid (CC.out.on q)
            have V3 := Lib.hid (V3.out.on q)
            have Z9 := Lib.hid (Z9.out.on q)
            have Z10 := Lib.hid (Z10.out.on q)
            have V4 := Lib.hid v
            clear v q
            refine hK.out _ _ I3.out (fun hHeld => ?_)
            clear hK K
            (try simp only [Act.put, PS])
            refine wpAnyH_ready (rs := [10]) (by kernel_rfl) (by simp) ?_
            refine (AllReadyH.cons (o := _) rfl (fun K hK => ?_) AllReadyH.nil)
            obtain ⟨⟨r0, r1, r2, r3, r4, r5, r6, r7⟩, f0, f1, f2, f3, f4, f5, f6, f7⟩ := bx_did (show Bx _ _ _ #[.string ⟨#[]⟩, .int .i64 0, .slice none 0 0, .slice none 0 0, .int .u64 0, .int .u64 0, .string ⟨#[]⟩, .int .i64 0] from Z9.out.1)
            obtain ⟨nD, gD⟩ := Z9.out.store (i := i3) (s := s3) (k := e3) V3.out
            have cm := Z9.out.calm
            have I3 := Lib.hid (I3.out.kp gD Z9.out.2 N97.out N98.out)
            have CC := Lib.hid (CC.out.kp cm gD)
            have Z10 := Lib.hid (Z10.out.kp gD (Ne.symm NE.out))
            have V4 := Lib.hid (V4.out.kp cm gD)
            have LTp9 := Lib.hid Z9.out.2
            have D9 := Lib.hid nD
            clear nD gD cm Z9 V3
            go_simp
            obtain ⟨z18, hw⟩ : ∃ z, z = ((((((((z17.setCell ⟨p9, 0, none⟩ (.string d3.name)).setCell ⟨p9, 1, none⟩ (.int .i64 d3.st)).setCell ⟨p9, 2, none⟩ (.slice E3a d3.L.length e3a)).setCell ⟨p9, 3, none⟩ (.slice E3b d3.U.length e3b)).setCell ⟨p9, 4, none⟩ (.int .u64 (d3.last : Nat))).setCell ⟨p9, 5, none⟩ (.int .u64 (i3 : Nat))).setCell ⟨p9, 6, none⟩ (.string s3)).setCell ⟨p9, 7, none⟩ (.int .i64 (e3 : Nat))) := ⟨_, rfl⟩
            rw [← hw] at I3 CC Z10 V4 D9 ⊢
            clear hw r0 r1 r2 r3 r4 r5 r6 r7 f0 f1 f2 f3 f4 f5 f6 f7
            refine hK.out _ _ I3.out (fun hHeld => ?_)
            clear hK K
            (try simp only [Act.put, PS])
            refine wpAnyH_ready (rs := [11]) (by kernel_rfl) (by simp) ?_
            refine (AllReadyH.cons (o := _) rfl (fun K hK => ?_) AllReadyH.nil)
            obtain ⟨⟨r0, r1, r2, r3, r4, r5, r6, r7⟩, f0, f1, f2, f3, f4, f5, f6, f7⟩ := bx_did (show Bx _ _ _ #[.string ⟨#[]⟩, .int .i64 0, .slice none 0 0, .slice none 0 0, .int .u64 0, .int .u64 0, .string ⟨#[]⟩, .int .i64 0] from Z10.out.1)
            obtain ⟨nD, gD⟩ := Z10.out.store (i := i4) (s := s4) (k := e4) V4.out
            have cm := Z10.out.calm
            have I3 := Lib.hid (I3.out.kp gD Z10.out.2 N107.out N108.out)
            have CC := Lib.hid (CC.out.kp cm gD)
            have D9 := Lib.hid (D9.out.kp cm gD NE.out)
            have LTp10 := Lib.hid Z10.out.2
            have D10 := Lib.hid nD
            clear nD gD cm Z10 V4
            go_simp
            obtain ⟨z19, hw⟩ : ∃ z, z = ((((((((z18.setCell ⟨p10, 0, none⟩ (.string d4.name)).setCell ⟨p10, 1, none⟩ (.int .i64 d4.st)).setCell ⟨p10, 2, none⟩ (.slice E4a d4.L.length e4a)).setCell ⟨p10, 3, none⟩ (.slice E4b d4.U.length e4b)).setCell ⟨p10, 4, none⟩ (.int .u64 (d4.last : Nat))).setCell ⟨p10, 5, none⟩ (.int .u64 (i4 : Nat))).setCell ⟨p10, 6, none⟩ (.string s4)).setCell ⟨p10, 7, none⟩ (.int .i64 (e4 : Nat))) := ⟨_, rfl⟩
            rw [← hw] at I3 CC D9 D10 ⊢
            clear hw r0 r1 r2 r3 r4 r5 r6 r7 f0 f1 f2 f3 f4 f5 f6 f7
            refine hK.out _ _ I3.out (fun hHeld => ?_)
            clear hK K
            (try simp only [Act.put, PS])
            refine wpAnyH_done (by kernel_rfl) ?_ _
            go_wp2_with fail
            go_meet
            exact ⟨p9, p10, rfl, rfl, In5.of I3.out CC.out, D9.out, D10.out⟩
        · have Z10 := Lib.hid (I3.out.1.newD)
          have N107 : Hid (p7 ≠ z1.heap.size) := Lib.hid (Nat.ne_of_lt I3.out.2.1.lt)
          have N108 : Hid (p8 ≠ z1.heap.size) := Lib.hid (Nat.ne_of_lt I3.out.2.2.lt)
          have q := (Q.refl z1).alloc (.cells zDid 34)
          have I3 := Lib.hid (I3.out.on q)
          have CC := Lib.hid (CC.out.on q)
          have V3 := Lib.hid (V3.out.on q)
          clear q
          go_simp
          obtain ⟨z20, hw⟩ : ∃ z, z = z1.alloc (.cells zDid 34) := ⟨_, rfl⟩
          rw [← hw] at I3 CC V3 Z10
          simp only [zDid] at hw
          rw [← hw]
          obtain ⟨p10, hp⟩ : ∃ p, p = z1.heap.size := ⟨_, rfl⟩
          rw [← hp] at Z10 N107 N108 ⊢
          clear hw hp
          refine hK.out _ _ I3.out (fun hHeld => ?_)
          clear hK K
          (try simp only [Act.put, PS])
          refine wpAnyH_ready (rs := [7, 8]) (by kernel_rfl) (by simp) ?_
          refine (AllReadyH.cons (o := _) rfl (fun K hK => ?_) (AllReadyH.cons (o := _) rfl (fun K hK => ?_) AllReadyH.nil))
          · go_simp
            go_at_call 12
            refine (DO4.out _ _ _ _ _ _ _ CC.out.2.2 CC.out.1.2.1).mono ?_
            rintro e z21 ⟨E4a, e4a, E4b, e4b, rfl, v, q⟩
            have I3 := Lib.hid (I3.out.on q)
            have CC := Lib.hid (CC.out.on q)
            have V3 := Lib.hid (V3.out.on q)
            have Z10 := Lib.hid (Z10.out.on q)
            have V4 := Lib.hid v
            clear v q
            refine hK.out _ _ I3.out (fun hHeld => ?_)
            clear hK K
            (try simp only [Act.put, PS])
            refine wpAnyH_ready (rs := [8]) (by kernel_rfl) (by simp) ?_
            refine (AllReadyH.cons (o := _) rfl (fun K hK => ?_) AllReadyH.nil)
            have Z9 := Lib.hid (I3.out.1.newD)
            have NE : Hid (z21.heap.size ≠ p10) := Lib.hid (Nat.ne_of_gt Z10.out.1.lt)
            have N97 : Hid (p7 ≠ z21.heap.size) := Lib.hid (Nat.ne_of_lt I3.out.2.1.lt)
            have N98 : Hid (p8 ≠ z21.heap.size) := Lib.hid (Nat.ne_of_lt I3.out.2.2.lt)
            have q := (Q.refl z21).alloc (.cells zDid 34)
            have I3 := Lib.hid (I3.out.on q)
            have CC := Lib.hid (CC.out.on q)
            have V3 := Lib.hid (V3.out.on q)
            have Z10 := Lib.hid (Z10.out.on q)
            have V4 := Lib.hid (V4.out.on q)
            clear q
            go_simp
            obtain ⟨z22, hw⟩ : ∃ z, z = z21.alloc (.cells zDid 34) := ⟨_, rfl⟩
            rw [← hw] at I3 CC V3 Z10 V4 Z9
            simp only [zDid] at hw
            rw [← hw]
            obtain ⟨p9, hp⟩ : ∃ p, p = z21.heap.size := ⟨_, rfl⟩
            rw [← hp] at Z9 NE N97 N98 ⊢
            clear hw hp
            refine hK.out _ _ I3.out (fun hHeld => ?_)
            clear hK K
            (try simp only [Act.put, PS])
            refine wpAnyH_ready (rs := [10]) (by kernel_rfl) (by simp) ?_
            refine (AllReadyH.cons (o := _) rfl (fun K hK => ?_) AllReadyH.nil)
            obtain ⟨⟨r0, r1, r2, r3, r4, r5, r6, r7⟩, f0, f1, f2, f3, f4, f5, f6, f7⟩ := bx_did (show Bx _ _ _ #[.string ⟨#[]⟩, .int .i64 0, .slice none 0 0, .slice none 0 0, .int .u64 0, .int .u64 0, .string ⟨#[]⟩, .int .i64 0] from Z9.out.1)
            obtain ⟨nD, gD⟩ := Z9.out.store (i := i3) (s := s3) (k := e3) V3.out
            have cm := Z9.out.calm
            have I3 := Lib.hid (I3.out.kp gD Z9.out.2 N97.out N98.out)
            have CC := Lib.hid (CC.out.kp cm gD)
            have Z10 := Lib.hid (Z10.out.kp gD (Ne.symm NE.out))
            have V4 := Lib.hid (V4.out.kp cm gD)
            have LTp9 := Lib.hid Z9.out.2
            have D9 := Lib.hid nD
            clear nD gD cm Z9 V3
            go_simp
            obtain ⟨z23, hw⟩ : ∃ z, z = ((((((((z22.setCell ⟨p9, 0, none⟩ (.string d3.name)).setCell ⟨p9, 1, none⟩ (.int .i64 d3.st)).setCell ⟨p9, 2, none⟩ (.slice E3a d3.L.length e3a)).setCell ⟨p9, 3, none⟩ (.slice E3b d3.U.length e3b)).setCell ⟨p9, 4, none⟩ (.int .u64 (d3.last : Nat))).setCell ⟨p9, 5, none⟩ (.int .u64 (i3 : Nat))).setCell ⟨p9, 6, none⟩ (.string s3)).setCell ⟨p9, 7, none⟩ (.int .i64 (e3 : Nat))) := ⟨_, rfl⟩
            rw [← hw] at I3 CC Z10 V4 D9 ⊢
            clear hw r0 r1 r2 r3 r4 r5 r6 r7 f0 f1 f2 f3 f4 f5 f6 f7
            refine hK.out _ _ I3.out (fun hHeld => ?_)
            clear hK K
            (try simp only [Act.put, PS])
            refine wpAnyH_ready (rs := [11]) (by kernel_rfl) (by simp) ?_
            refine (AllReadyH.cons (o := _) rfl (fun K hK => ?_) AllReadyH.nil)
            obtain ⟨⟨r0, r1, r2, r3, r4, r5, r6, r7⟩, f0, f1, f2, f3, f4, f5, f6, f7⟩ := bx_did (show Bx _ _ _ #[.string ⟨#[]⟩, .int .i64 0, .slice none 0 0, .slice none 0 0, .int .u64 0, .int .u64 0, .string ⟨#[]⟩, .int .i64 0] from Z10.out.1)
            obtain ⟨nD, gD⟩ := Z10.out.store (i := i4) (s := s4) (k := e4) V4.out
            have cm := Z10.out.calm
            have I3 := Lib.hid (I3.out.kp gD Z10.out.2 N107.out N108.out)
            have CC := Lib.hid (CC.out.kp cm gD)
            have D9 := Lib.hid (D9.out.kp cm gD NE.out)
            have LTp10 := Lib.hid Z10.out.2
            have D10 := Lib.hid nD
            clear nD gD cm Z10 V4
            go_simp
            obtain ⟨z24, hw⟩ : ∃ z, z = ((((((((z23.setCell ⟨p10, 0, none⟩ (.string d4.name)).setCell ⟨p10, 1, none⟩ (.int .i64 d4.st)).setCell ⟨p10, 2, none⟩ (.slice E4a d4.L.length e4a)).setCell ⟨p10, 3, none⟩ (.slice E4b d4.U.length e4b)).setCell ⟨p10, 4, none⟩ (.int .u64 (d4.last : Nat))).setCell ⟨p10, 5, none⟩ (.int .u64 (i4 : Nat))).setCell ⟨p10, 6, none⟩ (.string s4)).setCell ⟨p10, 7, none⟩ (.int .i64 (e4 : Nat))) := ⟨_, rfl⟩
            rw [← hw] at I3 CC D9 D10 ⊢
            clear hw r0 r1 r2 r3 r4 r5 r6 r7 f0 f1 f2 f3 f4 f5 f6 f7
            refine hK.out _ _ I3.out (fun hHeld => ?_)
            clear hK K
            (try simp only [Act.put, PS])
            refine wpAnyH_done (by kernel_rfl) ?_ _
            go_wp2_with fail
            go_meet
            exact ⟨p9, p10, rfl, rfl, In5.of I3.out CC.out, D9.out, D10.out⟩
          · have Z9 := Lib.hid (I3.out.1.newD)
            have NE : Hid (z20.heap.size ≠ p10) := Lib.hid (Nat.ne_of_gt Z10.out.1.lt)
            have N97 : Hid (p7 ≠ z20.heap.size) := Lib.hid (Nat.ne_of_lt I3.out.2.1.lt)
            have N98 : Hid (p8 ≠ z20.heap.size) := Lib.hid (Nat.ne_of_lt I3.out.2.2.lt)
            have q := (Q.refl z20).alloc (.cells zDid 34)
            have I3 := Lib.hid (I3.out.on q)
            have CC := Lib.hid (CC.out.on q)
            have V3 := Lib.hid (V3.out.on q)
            have Z10 := Lib.hid (Z10.out.on q)
            clear q
            go_simp
            obtain ⟨z25, hw⟩ : ∃ z, z = z20.alloc (.cells zDid 34) := ⟨_, rfl⟩
            rw [← hw] at I3 CC V3 Z10 Z9
            simp only [zDid] at hw
            rw [← hw]
            obtain ⟨p9, hp⟩ : ∃ p, p = z20.heap.size := ⟨_, rfl⟩
            rw [← hp] at Z9 NE N97 N98 ⊢
            clear hw hp
            refine hK.out _ _ I3.out (fun hHeld => ?_)
            clear hK K
            (try simp only [Act.put, PS])
            refine wpAnyH_ready (rs := [7]) (by kernel_rfl) (by simp) ?_
            refine (AllReadyH.cons (o := _) rfl (fun K hK => ?_) AllReadyH.nil)
            go_simp
            go_at_call 12
            refine (DO4.out _ _ _ _ _ _ _ CC.out.2.2 CC.out.1.2.1).mono ?_
            rintro e z26 ⟨E4a, e4a, E4b, e4b, rfl, v, q⟩
            have I3 := Lib.hid (I3.out.on q)
            have CC := Lib.hid (CC.out.on q)
            have V3 := Lib.hid (V3.out.on q)
            have Z10 := Lib.hid (Z10.out.on q)
            have Z9 := Lib.hid (Z9.out.on q)
            have V4 := Lib.hid v
            clear v q
            refine hK.out _ _ I3.out (fun hHeld => ?_)
            clear hK K
            (try simp only [Act.put, PS])
            refine wpAnyH_ready (rs := [10]) (by kernel_rfl) (by simp) ?_
            refine (AllReadyH.cons (o := _) rfl (fun K hK => ?_) AllReadyH.nil)
            obtain ⟨⟨r0, r1, r2, r3, r4, r5, r6, r7⟩, f0, f1, f2, f3, f4, f5, f6, f7⟩ := bx_did (show Bx _ _ _ #[.string ⟨#[]⟩, .int .i64 0, .slice none 0 0, .slice none 0 0, .int .u64 0, .int .u64 0, .string ⟨#[]⟩, .int .i64 0] from Z9.out.1)
            obtain ⟨nD, gD⟩ := Z9.out.store (i := i3) (s := s3) (k := e3) V3.out
            have cm := Z9.out.calm
            have I3 := Lib.hid (I3.out.kp gD Z9.out.2 N97.out N98.out)
            have CC := Lib.hid (CC.out.kp cm gD)
            have Z10 := Lib.hid (Z10.out.kp gD (Ne.symm NE.out))
            have V4 := Lib.hid (V4.out.kp cm gD)
            have LTp9 := Lib.hid Z9.out.2
            have D9 := Lib.hid nD
            clear nD gD cm Z9 V3
            go_simp
            obtain ⟨z27, hw⟩ : ∃ z, z = ((((((((z26.setCell ⟨p9, 0, none⟩ (.string d3.name)).setCell ⟨p9, 1, none⟩ (.int .i64 d3.st)).setCell ⟨p9, 2, none⟩ (.slice E3a d3.L.length e3a)).setCell ⟨p9, 3, none⟩ (.slice E3b d3.U.length e3b)).setCell ⟨p9, 4, none⟩ (.int .u64 (d3.last : Nat))).setCell ⟨p9, 5, none⟩ (.int .u64 (i3 : Nat))).setCell ⟨p9, 6, none⟩ (.string s3)).setCell ⟨p9, 7, none⟩ (.int .i64 (e3 : Nat))) := ⟨_, rfl⟩
            rw [← hw] at I3 CC Z10 V4 D9 ⊢
            clear hw r0 r1 r2 r3 r4 r5 r6 r7 f0 f1 f2 f3 f4 f5 f6 f7
            refine hK.out _ _ I3.out (fun hHeld => ?_)
            clear hK K
            (try simp only [Act.put, PS])
            refine wpAnyH_ready (rs := [11]) (by kernel_rfl) (by simp) ?_
            refine (AllReadyH.cons (o := _) rfl (fun K hK => ?_) AllReadyH.nil)
            obtain ⟨⟨r0, r1, r2, r3, r4, r5, r6, r7⟩, f0, f1, f2, f3, f4, f5, f6, f7⟩ := bx_did (show Bx _ _ _ #[.string ⟨#[]⟩, .int .i64 0, .slice none 0 0, .slice none 0 0, .int .u64 0, .int .u64 0, .string ⟨#[]⟩, .int .i64 0] from Z10.out.1)
            obtain ⟨nD, gD⟩ := Z10.out.store (i := i4) (s := s4) (k := e4) V4.out
            have cm := Z10.out.calm
            have I3 := Lib.hid (I3.out.kp gD Z10.out.2 N107.out N108.out)
            have CC := Lib.hid (CC.out.kp cm gD)
            have D9 := Lib.hid (D9.out.kp cm gD NE.out)
            have LTp10 := Lib.hid Z10.out.2
            have D10 := Lib.hid nD
            clear nD gD cm Z10 V4
            go_simp
            obtain ⟨z28, hw⟩ : ∃ z, z = ((((((((z27.setCell ⟨p10, 0, none⟩ (.string d4.name)).setCell ⟨p10, 1, none⟩ (.int .i64 d4.st)).setCell ⟨p10, 2, none⟩ (.slice E4a d4.L.length e4a)).setCell ⟨p10, 3, none⟩ (.slice E4b d4.U.length e4b)).setCell ⟨p10, 4, none⟩ (.int .u64 (d4.last : Nat))).setCell ⟨p10, 5, none⟩ (.int .u64 (i4 : Nat))).setCell ⟨p10, 6, none⟩ (.string s4)).setCell ⟨p10, 7, none⟩ (.int .i64 (e4 : Nat))) := ⟨_, rfl⟩
            rw [← hw] at I3 CC D9 D10 ⊢
            clear hw r0 r1 r2 r3 r4 r5 r6 r7 f0 f1 f2 f3 f4 f5 f6 f7
            refine hK.out _ _ I3.out (fun hHeld => ?_)
            clear hK K
            (try simp only [Act.put, PS])
            refine wpAnyH_done (by kernel_rfl) ?_ _
            go_wp2_with fail
            go_meet
            exact ⟨p9, p10, rfl, rfl, In5.of I3.out CC.out, D9.out, D10.out⟩
      · have Z9 := Lib.hid (I3.out.1.newD)
        have N97 : Hid (p7 ≠ z0.heap.size) := Lib.hid (Nat.ne_of_lt I3.out.2.1.lt)
        have N98 : Hid (p8 ≠ z0.heap.size) := Lib.hid (Nat.ne_of_lt I3.out.2.2.lt)
        have q := (Q.refl z0).alloc (.cells zDid 34)
        have I3 := Lib.hid (I3.out.on q)
        have CC := Lib.hid (CC.out.on q)
        clear q
        go_simp
        obtain ⟨z29, hw⟩ : ∃ z, z = z0.alloc (.cells zDid 34) := ⟨_, rfl⟩
        rw [← hw] at I3 CC Z9
        simp only [zDid] at hw
        rw [← hw]
        obtain ⟨p9, hp⟩ : ∃ p, p = z0.heap.size := ⟨_, rfl⟩
        rw [← hp] at Z9 N97 N98 ⊢
        clear hw hp
        refine hK.out _ _ I3.out (fun hHeld => ?_)
        clear hK K
        (try simp only [Act.put, PS])
        refine wpAnyH_ready (rs := [3, 9]) (by kernel_rfl) (by simp) ?_
        refine (AllReadyH.cons (o := _) rfl (fun K hK => ?_) (AllReadyH.cons (o := _) rfl (fun K hK => ?_) AllReadyH.nil))
        · go_simp
          go_at_call 12
          refine (DO3.out _ _ _ _ _ _ _ CC.out.2.1 CC.out.1.2.2).mono ?_
          rintro e z30 ⟨E3a, e3a, E3b, e3b, rfl, v, q⟩
          have I3 := Lib.hid (I3.out.on q)
          have CC := Lib.hid (CC.out.on q)
          have Z9 := Lib.hid (Z9.out.on q)
          have V3 := Lib.hid v
          clear v q
          refine hK.out _ _ I3.out (fun hHeld => ?_)
          clear hK K
          (try simp only [Act.put, PS])
          refine wpAnyH_ready (rs := [7, 9]) (by kernel_rfl) (by simp) ?_
          refine (AllReadyH.cons (o := _) rfl (fun K hK => ?_) (AllReadyH.cons (o := _) rfl (fun K hK => ?_) AllReadyH.nil))
          · go_simp
            go_at_call 12
            refine (DO4.out _ _ _ _ _ _ _ CC.out.2.2 CC.out.1.2.1).mono ?_
            rintro e z31 ⟨E4a, e4a, E4b, e4b, rfl, v, q⟩
            have I3 := Lib.hid (I3.out.on q)
            have CC := Lib.hid (CC.out.on q)
            have Z9 := Lib.hid (Z9.out.on q)
            have V3 := Lib.hid (V3.out.on q)
            have V4 := Lib.hid v
            clear v q
            refine hK.out _ _ I3.out (fun hHeld => ?_)
            clear hK K
            (try simp only [Act.put, PS])
            refine wpAnyH_ready (rs := [9]) (by kernel_rfl) (by simp) ?_
            refine (AllReadyH.cons (o := _) rfl (fun K hK => ?_) AllReadyH.nil)
            have Z10 := Lib.hid (I3.out.1.newD)
            have NE : Hid (p9 ≠ z31.heap.size) := Lib.hid (Nat.ne_of_lt Z9.out.1.lt)
            have N107 : Hid (p7 ≠ z31.heap.size) := Lib.hid (Nat.ne_of_lt I3.out.2.1.lt)
            have N108 : Hid (p8 ≠ z31.heap.size) := Lib.hid (Nat.ne_of_lt I3.out.2.2.lt)
            have q := (Q.refl z31).alloc (.cells zDid 34)
            have I3 := Lib.hid (I3.out.on q)
            have CC := Lib.hid (CC.out.on q)
            have Z9 := Lib.hid (Z9.out.on q)
            have V3 := Lib.hid (V3.out.on q)
            have V4 := Lib.hid (V4.out.on q)
            clear q
            go_simp
            obtain ⟨z32, hw⟩ : ∃ z, z = z31.alloc (.cells zDid 34) := ⟨_, rfl⟩
            rw [← hw] at I3 CC Z9 V3 V4 Z10
            simp only [zDid] at hw
            rw [← hw]
            obtain ⟨p10, hp⟩ : ∃ p, p = z31.heap.size := ⟨_, rfl⟩
            rw [← hp] at Z10 NE N107 N108 ⊢
            clear hw hp
            refine hK.out _ _ I3.out (fun hHeld => ?_)
            clear hK K
            (try simp only [Act.put, PS])
            refine wpAnyH_ready (rs := [10]) (by kernel_rfl) (by simp) ?_
            refine (AllReadyH.cons (o := _) rfl (fun K hK => ?_) AllReadyH.nil)
            obtain ⟨⟨r0, r1, r2, r3, r4, r5, r6, r7⟩, f0, f1, f2, f3, f4, f5, f6, f7⟩ := bx_did (show Bx _ _ _ #[.string ⟨#[]⟩, .int .i64 0, .slice none 0 0, .slice none 0 0, .int .u64 0, .int .u64 0, .string ⟨#[]⟩, .int .i64 0] from Z9.out.1)
            obtain ⟨nD, gD⟩ := Z9.out.store (i := i3) (s := s3) (k := e3) V3.out
            have cm := Z9.out.calm
            have I3 := Lib.hid (I3.out.kp gD Z9.out.2 N97.out N98.out)
            have CC := Lib.hid (CC.out.kp cm gD)
            have V4 := Lib.hid (V4.out.kp cm gD)
            have Z10 := Lib.hid (Z10.out.kp gD (Ne.symm NE.out))
            have LTp9 := Lib.hid Z9.out.2
            have D9 := Lib.hid nD
            clear nD gD cm Z9 V3
            go_simp
            obtain ⟨z33, hw⟩ : ∃ z, z = ((((((((z32.setCell ⟨p9, 0, none⟩ (.string d3.name)).setCell ⟨p9, 1, none⟩ (.int .i64 d3.st)).setCell ⟨p9, 2, none⟩ (.slice E3a d3.L.length e3a)).setCell ⟨p9, 3, none⟩ (.slice E3b d3.U.length e3b)).setCell ⟨p9, 4, none⟩ (.int .u64 (d3.last : Nat))).setCell ⟨p9, 5, none⟩ (.int .u64 (i3 : Nat))).setCell ⟨p9, 6, none⟩ (.string s3)).setCell ⟨p9, 7, none⟩ (.int .i64 (e3 : Nat))) := ⟨_, rfl⟩
            rw [← hw] at I3 CC V4 Z10 D9 ⊢
            clear hw r0 r1 r2 r3 r4 r5 r6 r7 f0 f1 f2 f3 f4 f5 f6 f7
            refine hK.out _ _ I3.out (fun hHeld => ?_)
            clear hK K
            (try simp only [Act.put, PS])
            refine wpAnyH_ready (rs := [11]) (by kernel_rfl) (by simp) ?_
            refine (AllReadyH.cons (o := _) rfl (fun K hK => ?_) AllReadyH.nil)
            obtain ⟨⟨r0, r1, r2, r3, r4, r5, r6, r7⟩, f0, f1, f2, f3, f4, f5, f6, f7⟩ := bx_did (show Bx _ _ _ #[.string ⟨#[]⟩, .int .i64 0, .slice none 0 0, .slice none 0 0, .int .u64 0, .int .u64 0, .string ⟨#[]⟩, .int .i64 0] from Z10.out.1)
            obtain ⟨nD, gD⟩ := Z10.out.store (i := i4) (s := s4) (k := e4) V4.out
            have cm := Z10.out.calm
            have I3 := Lib.hid (I3.out.kp gD Z10.out.2 N107.out N108.out)
            have CC := Lib.hid (CC.out.kp cm gD)
            have D9 := Lib.hid (D9.out.kp cm gD NE.out)
            have LTp10 := Lib.hid Z10.out.2
            have D10 := Lib.hid nD
            clear nD gD cm Z10 V4
            go_simp
            obtain ⟨z34, hw⟩ : ∃ z, z = ((((((((z33.setCell ⟨p10, 0, none⟩ (.string d4.name)).setCell ⟨p10, 1, none⟩ (.int .i64 d4.st)).setCell ⟨p10, 2, none⟩ (.slice E4a d4.L.length e4a)).setCell ⟨p10, 3, none⟩ (.slice E4b d4.U.length e4b)).setCell ⟨p10, 4, none⟩ (.int .u64 (d4.last : Nat))).setCell ⟨p10, 5, none⟩ (.int .u64 (i4 : Nat))).setCell ⟨p10, 6, none⟩ (.string s4)).setCell ⟨p10, 7, none⟩ (.int .i64 (e4 : Nat))) := ⟨_, rfl⟩
            rw [← hw] at I3 CC D9 D10 ⊢
            clear hw r0 r1 r2 r3 r4 r5 r6 r7 f0 f1 f2 f3 f4 f5 f6 f7
            refine hK.out _ _ I3.out (fun hHeld => ?_)
            clear hK K
            (try simp only [Act.put, PS])
            refine wpAnyH_done (by kernel_rfl) ?_ _
            go_wp2_with fail
            go_meet
            exact ⟨p9, p10, rfl, rfl, In5.of I3.out CC.out, D9.out, D10.out⟩
          · have Z10 := Lib.hid (I3.out.1.newD)
            have NE : Hid (p9 ≠ z30.heap.size) := Lib.hid (Nat.ne_of_lt Z9.out.1.lt)
            have N107 : Hid (p7 ≠ z30.heap.size) := Lib.hid (Nat.ne_of_lt I3.out.2.1.lt)
            have N108 : Hid (p8 ≠ z30.heap.size) := Lib.hid (Nat.ne_of_lt I3.out.2.2.lt)
            have q := (Q.refl z30).alloc (.cells zDid 34)
            have I3 := Lib.hid (I3.out.on q)
            have CC := Lib.hid (CC.out.on q)
            have Z9 := Lib.hid (Z9.out.on q)
            have V3 := Lib.hid (V3.out.on q)
            clear q
            go_simp
            obtain ⟨z35, hw⟩ : ∃ z, z = z30.alloc (.cells zDid 34) := ⟨_, rfl⟩
            rw [← hw] at I3 CC Z9 V3 Z10
            simp only [zDid] at hw
            rw [← hw]
            obtain ⟨p10, hp⟩ : ∃ p, p = z30.heap.size := ⟨_, rfl⟩
            rw [← hp] at Z10 NE N107 N108 ⊢
            clear hw hp
            refine hK.out _ _ I3.out (fun hHeld => ?_)
            clear hK K
            (try simp only [Act.put, PS])
            refine wpAnyH_ready (rs := [7]) (by kernel_rfl) (by simp) ?_
            refine (AllReadyH.cons (o := _) rfl (fun K hK => ?_) AllReadyH.nil)
            go_simp
            go_at_call 12
            refine (DO4.out _ _ _ _ _ _ _ CC.out.2.2 CC.out.1.2.1).mono ?_
            rintro e z36 ⟨E4a, e4a, E4b, e4b, rfl, v, q⟩
            have I3 := Lib.hid (I3.out.on q)
            have CC := Lib.hid (CC.out.on q)
            have Z9 := Lib.hid (Z9.out.on q)
            have V3 := Lib.hid (V3.out.on q)
            have Z10 := Lib.hid (Z10.out.on q)
            have V4 := Lib.hid v
            clear v q
            refine hK.out _ _ I3.out (fun hHeld => ?_)
            clear hK K
            (try simp only [Act.put, PS])
            refine wpAnyH_ready (rs := [10]) (by kernel_rfl) (by simp) ?_
            refine (AllReadyH.cons (o := _) rfl (fun K hK => ?_) AllReadyH.nil)
            obtain ⟨⟨r0, r1, r2, r3, r4, r5, r6, r7⟩, f0, f1, f2, f3, f4, f5, f6, f7⟩ := bx_did (show Bx _ _ _ #[.string ⟨#[]⟩, .int .i64 0, .slice none 0 0, .slice none 0 0, .int .u64 0, .int .u64 0, .string ⟨#[]⟩, .int .i64 0] from Z9.out.1)
            obtain ⟨nD, gD⟩ := Z9.out.store (i := i3) (s := s3) (k := e3) V3.out
            have cm := Z9.out.calm
            have I3 := Lib.hid (I3.out.kp gD Z9.out.2 N97.out N98.out)
            have CC := Lib.hid (CC.out.kp cm gD)
            have Z10 := Lib.hid (Z10.out.kp gD (Ne.symm NE.out))
            have V4 := Lib.hid (V4.out.kp cm gD)
            have LTp9 := Lib.hid Z9.out.2
            have D9 := Lib.hid nD
            clear nD gD cm Z9 V3
            go_simp
            obtain ⟨z37, hw⟩ : ∃ z, z = ((((((((z36.setCell ⟨p9, 0, none⟩ (.string d3.name)).setCell ⟨p9, 1, none⟩ (.int .i64 d3.st)).setCell ⟨p9, 2, none⟩ (.slice E3a d3.L.length e3a)).setCell ⟨p9, 3, none⟩ (.slice E3b d3.U.length e3b)).setCell ⟨p9, 4, none⟩ (.int .u64 (d3.last : Nat))).setCell ⟨p9, 5, none⟩ (.int .u64 (i3 : Nat))).setCell ⟨p9, 6, none⟩ (.string s3)).setCell ⟨p9, 7, none⟩ (.int .i64 (e3 : Nat))) := ⟨_, rfl⟩
            rw [← hw] at I3 CC Z10 V4 D9 ⊢
            clear hw r0 r1 r2 r3 r4 r5 r6 r7 f0 f1 f2 f3 f4 f5 f6 f7
            refine hK.out _ _ I3.out (fun hHeld => ?_)
            clear hK K
            (try simp only [Act.put, PS])
            refine wpAnyH_ready (rs := [11]) (by kernel_rfl) (by simp) ?_
            refine (AllReadyH.cons (o := _) rfl (fun K hK => ?_) AllReadyH.nil)
            obtain ⟨⟨r0, r1, r2, r3, r4, r5, r6, r7⟩, f0, f1, f2, f3, f4, f5, f6, f7⟩ := bx_did (show Bx _ _ _ #[.string ⟨#[]⟩, .int .i64 0, .slice none 0 0, .slice none 0 0, .int .u64 0, .int .u64 0, .string ⟨#[]⟩, .int .i64 0] from Z10.out.1)
            obtain ⟨nD, gD⟩ := Z10.out.store (i := i4) (s := s4) (k := e4) V4.out
            have cm := Z10.out.calm
            have I3 := Lib.hid (I3.out.kp gD Z10.out.2 N107.out N108.out)
            have CC := Lib.hid (CC.out.kp cm gD)
            have D9 := Lib.hid (D9.out.kp cm gD NE.out)
            have LTp10 := Lib.hid Z10.out.2
            have D10 := Lib.hid nD
            clear nD gD cm Z10 V4
            go_simp
            obtain ⟨z38, hw⟩ : ∃ z, z = ((((((((z37.setCell ⟨p10, 0, none⟩ (.string d4.name)).setCell ⟨p10, 1, none⟩ (.int .i64 d4.st)).setCell ⟨p10, 2, none⟩ (.slice E4a d4.L.length e4a)).setCell ⟨p10, 3, none⟩ (.slice E4b d4.U.length e4b)).setCell ⟨p10, 4, none⟩ (.int .u64 (d4.last : Nat))).setCell ⟨p10, 5, none⟩ (.int .u64 (i4 : Nat))).setCell ⟨p10, 6, none⟩ (.string s4)).setCell ⟨p10, 7, none⟩ (.int .i64 (e4 : Nat))) := ⟨_, rfl⟩
            rw [← hw] at I3 CC D9 D10 ⊢
            clear hw r0 r1 r2 r3 r4 r5 r6 r7 f0 f1 f2 f3 f4 f5 f6 f7
            refine hK.out _ _ I3.out (fun hHeld => ?_)
            clear hK K
            (try simp only [Act.put, PS])
            refine wpAnyH_done (by kernel_rfl) ?_ _
            go_wp2_with fail
            go_meet
            exact ⟨p9, p10, rfl, rfl, In5.of I3.out CC.out, D9.out, D10.out⟩
        · have Z10 := Lib.hid (I3.out.1.newD)
          have NE : Hid (p9 ≠ z29.heap.size) := Lib.hid (Nat.ne_of_lt Z9.out.1.lt)
          have N107 : Hid (p7 ≠ z29.heap.size) := Lib.hid (Nat.ne_of_lt I3.out.2.1.lt)
          have N108 : Hid (p8 ≠ z29.heap.size) := Lib.hid (Nat.ne_of_lt I3.out.2.2.lt)
          have q := (Q.refl z29).alloc (.cells zDid 34)
          have I3 := Lib.hid (I3.out.on q)
          have CC := Lib.hid (CC.out.on q)
          have Z9 := Lib.hid (Z9.out.on q)
          clear q
          go_simp
          obtain ⟨z39, hw⟩ : ∃ z, z = z29.alloc (.cells zDid 34) := ⟨_, rfl⟩
          rw [← hw] at I3 CC Z9 Z10
          simp only [zDid] at hw
          rw [← hw]
          obtain ⟨p10, hp⟩ : ∃ p, p = z29.heap.size := ⟨_, rfl⟩
          rw [← hp] at Z10 NE N107 N108 ⊢
          clear hw hp
          refine hK.out _ _ I3.out (fun hHeld => ?_)
          clear hK K
          (try simp only [Act.put, PS])
          refine wpAnyH_ready (rs := [3]) (by kernel_rfl) (by simp) ?_
          refine (AllReadyH.cons (o := _) rfl (fun K hK => ?_) AllReadyH.nil)
          go_simp
          go_at_call 12
          refine (DO3.out _ _ _ _ _ _ _ CC.out.2.1 CC.out.1.2.2).mono ?_
          rintro e z40 ⟨E3a, e3a, E3b, e3b, rfl, v, q⟩
          have I3 := Lib.hid (I3.out.on q)
          have CC := Lib.hid (CC.out.on q)
          have Z9 := Lib.hid (Z9.out.on q)
          have Z10 := Lib.hid (Z10.out.on q)
          have V3 := Lib.hid v
          clear v q
          refine hK.out _ _ I3.out (fun hHeld => ?_)
          clear hK K
          (try simp only [Act.put, PS])
          refine wpAnyH_ready (rs := [7]) (by kernel_rfl) (by simp) ?_
          refine (AllReadyH.cons (o := _) rfl (fun K hK => ?_) AllReadyH.nil)
          go_simp
          go_at_call 12
          refine (DO4.out _ _ _ _ _ _ _ CC.out.2.2 CC.out.1.2.1).mono ?_
          rintro e z41 ⟨E4a, e4a, E4b, e4b, rfl, v, q⟩
          have I3 := Lib.hid (I3.out.on q)
          have CC := Lib.hid (CC.out.on q)
          have Z9 := Lib.hid (Z9.out.on q)
          have Z10 := Lib.hid (Z10.out.on q)
          have V3 := Lib.hid (V3.out.on q)
          have V4 := Lib.hid v
          clear v q
          refine hK.out _ _ I3.out (fun hHeld => ?_)
          clear hK K
          (try simp only [Act.put, PS])
          refine wpAnyH_ready (rs := [10]) (by kernel_rfl) (by simp) ?_
          refine (AllReadyH.cons (o := _) rfl (fun K hK => ?_) AllReadyH.nil)
          obtain ⟨⟨r0, r1, r2, r3, r4, r5, r6, r7⟩, f0, f1, f2, f3, f4, f5, f6, f7⟩ := bx_did (show Bx _ _ _ #[.string ⟨#[]⟩, .int .i64 0, .slice none 0 0, .slice none 0 0, .int .u64 0, .int .u64 0, .string ⟨#[]⟩, .int .i64 0] from Z9.out.1)
          obtain ⟨nD, gD⟩ := Z9.out.store (i := i3) (s := s3) (k := e3) V3.out
          have cm := Z9.out.calm
          have I3 := Lib.hid (I3.out.kp gD Z9.out.2 N97.out N98.out)
          have CC := Lib.hid (CC.out.kp cm gD)
          have Z10 := Lib.hid (Z10.out.kp gD (Ne.symm NE.out))
          have V4 := Lib.hid (V4.out.kp cm gD)
          have LTp9 := Lib.hid Z9.out.2
          have D9 := Lib.hid nD
          clear nD gD cm Z9 V3
          go_simp
          obtain ⟨z42, hw⟩ : ∃ z, z = ((((((((z41.setCell ⟨p9, 0, none⟩ (.string d3.name)).setCell ⟨p9, 1, none⟩ (.int .i64 d3.st)).setCell ⟨p9, 2, none⟩ (.slice E3a d3.L.length e3a)).setCell ⟨p9, 3, none⟩ (.slice E3b d3.U.length e3b)).setCell ⟨p9, 4, none⟩ (.int .u64 (d3.last : Nat))).setCell ⟨p9, 5, none⟩ (.int .u64 (i3 : Nat))).setCell ⟨p9, 6, none⟩ (.string s3)).setCell ⟨p9, 7, none⟩ (.int .i64 (e3 : Nat))) := ⟨_, rfl⟩
          rw [← hw] at I3 CC Z10 V4 D9 ⊢
          clear hw r0 r1 r2 r3 r4 r5 r6 r7 f0 f1 f2 f3 f4 f5 f6 f7
          refine hK.out _ _ I3.out (fun hHeld => ?_)
          clear hK K
          (try simp only [Act.put, PS])
          refine wpAnyH_ready (rs := [11]) (by kernel_rfl) (by simp) ?_
          refine (AllReadyH.cons (o := _) rfl (fun K hK => ?_) AllReadyH.nil)
          obtain ⟨⟨r0, r1, r2, r3, r4, r5, r6, r7⟩, f0, f1, f2, f3, f4, f5, f6, f7⟩ := bx_did (show Bx _ _ _ #[.string ⟨#[]⟩, .int .i64 0, .slice none 0 0, .slice none 0 0, .int .u64 0, .int .u64 0, .string ⟨#[]⟩, .int .i64 0] from Z10.out.1)
          obtain ⟨nD, gD⟩ := Z10.out.store (i := i4) (s := s4) (k := e4) V4.out
          have cm := Z10.out.calm
          have I3 := Lib.hid (I3.out.kp gD Z10.out.2 N107.out N108.out)
          have CC := Lib.hid (CC.out.kp cm gD)
          have D9 := Lib.hid (D9.out.kp cm gD NE.out)
          have LTp10 := Lib.hid Z10.out.2
          have D10 := Lib.hid nD
          clear nD gD cm Z10 V4
          go_simp
          obtain ⟨z43, hw⟩ : ∃ z, z = ((((((((z42.setCell ⟨p10, 0, none⟩ (.string d4.name)).setCell ⟨p10, 1, none⟩ (.int .i64 d4.st)).setCell ⟨p10, 2, none⟩ (.slice E4a d4.L.length e4a)).setCell ⟨p10, 3, none⟩ (.slice E4b d4.U.length e4b)).setCell ⟨p10, 4, none⟩ (.int .u64 (d4.last : Nat))).setCell ⟨p10, 5, none⟩ (.int .u64 (i4 : Nat))).setCell ⟨p10, 6, none⟩ (.string s4)).setCell ⟨p10, 7, none⟩ (.int .i64 (e4 : Nat))) := ⟨_, rfl⟩
          rw [← hw] at I3 CC D9 D10 ⊢
          clear hw r0 r1 r2 r3 r4 r5 r6 r7 f0 f1 f2 f3 f4 f5 f6 f7
          refine hK.out _ _ I3.out (fun hHeld => ?_)
          clear hK K
          (try simp only [Act.put, PS])
          refine wpAnyH_done (by kernel_rfl) ?_ _
          go_wp2_with fail
          go_meet
          exact ⟨p9, p10, rfl, rfl, In5.of I3.out CC.out, D9.out, D10.out⟩
      · have Z10 := Lib.hid (I3.out.1.newD)
        have N107 : Hid (p7 ≠ z0.heap.size) := Lib.hid (Nat.ne_of_lt I3.out.2.1.lt)
        have N108 : Hid (p8 ≠ z0.heap.size) := Lib.hid (Nat.ne_of_lt I3.out.2.2.lt)
        have q := (Q.refl z0).alloc (.cells zDid 34)
        have I3 := Lib.hid (I3.out.on q)
        have CC := Lib.hid (CC.out.on q)
        clear q
        go_simp
        obtain ⟨z44, hw⟩ : ∃ z, z = z0.alloc (.cells zDid 34) := ⟨_, rfl⟩
        rw [← hw] at I3 CC Z10
        simp only [zDid] at hw
        rw [← hw]
        obtain ⟨p10, hp⟩ : ∃ p, p = z0.heap.size := ⟨_, rfl⟩
        rw [← hp] at Z10 N107 N108 ⊢
        clear hw hp
        refine hK.out _ _ I3.out (fun hHeld => ?_)
        clear hK K
        (try simp only [Act.put, PS])
        refine wpAnyH_ready (rs := [3, 8]) (by kernel_rfl) (by simp) ?_
        refine (AllReadyH.cons (o := _) rfl (fun K hK => ?_) (AllReadyH.cons (o := _) rfl (fun K hK => ?_) AllReadyH.nil))
        · go_simp
          go_at_call 12
          refine (DO3.out _ _ _ _ _ _ _ CC.out.2.1 CC.out.1.2.2).mono ?_
          rintro e z45 ⟨E3a, e3a, E3b, e3b, rfl, v, q⟩
          have I3 := Lib.hid (I3.out.on q)
          have CC := Lib.hid (CC.out.on q)
          have Z10 := Lib.hid (Z10.out.on q)
          have V3 := Lib.hid v
          clear v q
          refine hK.out _ _ I3.out (fun hHeld => ?_)
          clear hK K
          (try simp only [Act.put, PS])
          refine wpAnyH_ready (rs := [7, 8]) (by kernel_rfl) (by simp) ?_
          refine (AllReadyH.cons (o := _) rfl (fun K hK => ?_) (AllReadyH.cons (o := _) rfl (fun K hK => ?_) AllReadyH.nil))
          · go_simp
            go_at_call 12
            refine (DO4.out _ _ _ _ _ _ _ CC.out.2.2 CC.out.1.2.1).mono ?_
            rintro e z46 ⟨E4a, e4a, E4b, e4b, rfl, v, q⟩
            have I3 := Lib.hid (I3.out.on q)
            have CC := Lib.hid (CC.out.on q)
            have Z10 := Lib.hid (Z10.out.on q)
            have V3 := Lib.hid (V3.out.on q)
            have V4 := Lib.hid v
            clear v q
            refine hK.out _ _ I3.out (fun hHeld => ?_)
            clear hK K
            (try simp only [Act.put, PS])
            refine wpAnyH_ready (rs := [8]) (by kernel_rfl) (by simp) ?_
            refine (AllReadyH.cons (o := _) rfl (fun K hK => ?_) AllReadyH.nil)
            have Z9 := Lib.hid (I3.out.1.newD)
            have NE : Hid (z46.heap.size ≠ p10) := Lib.hid (Nat.ne_of_gt Z10.out.1.lt)
            have N97 : Hid (p7 ≠ z46.heap.size) := Lib.hid (Nat.ne_of_lt I3.out.2.1.lt)
            have N98 : Hid (p8 ≠ z46.heap.size) := Lib.hid (Nat.ne_of_lt I3.out.2.2.lt)
            have q := (Q.refl z46).alloc (.cells zDid 34)
            have I3 := Lib.hid (I3.out.on q)
            have CC := Lib.hid (CC.out.on q)
            have Z10 := Lib.hid (Z10.out.on q)
            have V3 := Lib.hid (V3.out.on q)
            have V4 := Lib.hid (V4.out.on q)
            clear q
            go_simp
            obtain ⟨z47, hw⟩ : ∃ z, z = z46.alloc (.cells zDid 34) := ⟨_, rfl⟩
            rw [← hw] at I3 CC Z10 V3 V4 Z9
            simp only [zDid] at hw
            rw [← hw]
            obtain ⟨p9, hp⟩ : ∃ p, p = z46.heap.size := ⟨_, rfl⟩
            rw [← hp] at Z9 NE N97 N98 ⊢
            clear hw hp
            refine hK.out _ _ I3.out (fun hHeld => ?_)
            clear hK K
            (try simp only [Act.put, PS])
            refine wpAnyH_ready (rs := [10]) (by kernel_rfl) (by simp) ?_
            refine (AllReadyH.cons (o := _) rfl (fun K hK => ?_) AllReadyH.nil)
            obtain ⟨⟨r0, r1, r2, r3, r4, r5, r6, r7⟩, f0, f1, f2, f3, f4, f5, f6, f7⟩ := bx_did (show Bx _ _ _ #[.string ⟨#[]⟩, .int .i64 0, .slice none 0 0, .slice none 0 0, .int .u64 0, .int .u64 0, .string ⟨#[]⟩, .int .i64 0] from Z9.out.1)
            obtain ⟨nD, gD⟩ := Z9.out.store (i := i3) (s := s3) (k := e3) V3.out
            have cm := Z9.out.calm
            have I3 := Lib.hid (I3.out.kp gD Z9.out.2 N97.out N98.out)
            have CC := Lib.hid (CC.out.kp cm gD)
            have Z10 := Lib.hid (Z10.out.kp gD (Ne.symm NE.out))
            have V4 := Lib.hid (V4.out.kp cm gD)
            have LTp9 := Lib.hid Z9.out.2
            have D9 := Lib.hid nD
            clear nD gD cm Z9 V3
            go_simp
            obtain ⟨z48, hw⟩ : ∃ z, z = ((((((((z47.setCell ⟨p9, 0, none⟩ (.string d3.name)).setCell ⟨p9, 1, none⟩ (.int .i64 d3.st)).setCell ⟨p9, 2, none⟩ (.slice E3a d3.L.length e3a)).setCell ⟨p9, 3, none⟩ (.slice E3b d3.U.length e3b)).setCell ⟨p9, 4, none⟩ (.int .u64 (d3.last : Nat))).setCell ⟨p9, 5, none⟩ (.int .u64 (i3 : Nat))).setCell ⟨p9, 6, none⟩ (.string s3)).setCell ⟨p9, 7, none⟩ (.int .i64 (e3 : Nat))) := ⟨_, rfl⟩
            rw [← hw] at I3 CC Z10 V4 D9 ⊢
            clear hw r0 r1 r2 r3 r4 r5 r6 r7 f0 f1 f2 f3 f4 f5 f6 f7
            refine hK.out _ _ I3.out (fun hHeld => ?_)
            clear hK K
            (try simp only [Act.put, PS])
            refine wpAnyH_ready (rs := [11]) (by kernel_rfl) (by simp) ?_
            refine (AllReadyH.cons (o := _) rfl (fun K hK => ?_) AllReadyH.nil)
            obtain ⟨⟨r0, r1, r2, r3, r4, r5, r6, r7⟩, f0, f1, f2, f3, f4, f5, f6, f7⟩ := bx_did (show Bx _ _ _ #[.string ⟨#[]⟩, .int .i64 0, .slice none 0 0, .slice none 0 0, .int .u64 0, .int .u64 0, .string ⟨#[]⟩, .int .i64 0] from Z10.out.1)
            obtain ⟨nD, gD⟩ := Z10.out.store (i := i4) (s := s4) (k := e4) V4.out
            have cm := Z10.out.calm
            have I3 := Lib.hid (I3.out.kp gD Z10.out.2 N107.out N108.out)
            have CC := Lib.hid (CC.out.kp cm gD)
            have D9 := Lib.hid (D9.out.kp cm gD NE.out)
            have LTp10 := Lib.hid Z10.out.2
            have D10 := Lib.hid nD
            clear nD gD cm Z10 V4
            go_simp
            obtain ⟨z49, hw⟩ : ∃ z, z = ((((((((z48.setCell ⟨p10, 0, none⟩ (.string d4.name)).setCell ⟨p10, 1, none⟩ (.int .i64 d4.st)).setCell ⟨p10, 2, none⟩ (.slice E4a d4.L.length e4a)).setCell ⟨p10, 3, none⟩ (.slice E4b d4.U.length e4b)).setCell ⟨p10, 4, none⟩ (.int .u64 (d4.last : Nat))).setCell ⟨p10, 5, none⟩ (.int .u64 (i4 : Nat))).setCell ⟨p10, 6, none⟩ (.string s4)).setCell ⟨p10, 7, none⟩ (.int .i64 (e4 : Nat))) := ⟨_, rfl⟩
            rw [← hw] at I3 CC D9 D10 ⊢
            clear hw r0 r1 r2 r3 r4 r5 r6 r7 f0 f1 f2 f3 f4 f5 f6 f7
            refine hK.out _ _ I3.out (fun hHeld => ?_)
            clear hK K
            (try simp only [Act.put, PS])
            refine wpAnyH_done (by kernel_rfl) ?_ _
            go_wp2_with fail
            go_meet
            exact ⟨p9, p10, rfl, rfl, In5.of I3.out CC.out, D9.out, D10.out⟩
          · have Z9 := Lib.hid (I3.out.1.newD)
            have NE : Hid (z45.heap.size ≠ p10) := Lib.hid (Nat.ne_of_gt Z10.out.1.lt)
            have N97 : Hid (p7 ≠ z45.heap.size) := Lib.hid (Nat.ne_of_lt I3.out.2.1.lt)
            have N98 : Hid (p8 ≠ z45.heap.size) := Lib.hid (Nat.ne_of_lt I3.out.2.2.lt)
            have q := (Q.refl z45).alloc (.cells zDid 34)
            have I3 := Lib.hid (I3.out.on q)
            have CC := Lib.hid (CC.out.on q)
            have Z10 := Lib.hid (Z10.out.on q)
            have V3 := Lib.hid (V3.out.on q)
            clear q
            go_simp
            obtain ⟨z50, hw⟩ : ∃ z, z = z45.alloc (.cells zDid 34) := ⟨_, rfl⟩
            rw [← hw] at I3 CC Z10 V3 Z9
            simp only [zDid] at hw
            rw [← hw]
            obtain ⟨p9, hp⟩ : ∃ p, p = z45.heap.size := ⟨_, rfl⟩
            rw [← hp] at Z9 NE N97 N98 ⊢
            clear hw hp
            refine hK.out _ _ I3.out (fun hHeld => ?_)
            clear hK K
            (try simp only [Act.put, PS])
            refine wpAnyH_ready (rs := [7]) (by kernel_rfl) (by simp) ?_
            refine (AllReadyH.cons (o := _) rfl (fun K hK => ?_) AllReadyH.nil)
            go_simp
            go_at_call 12
            refine (DO4.out _ _ _ _ _ _ _ CC.out.2.2 CC.out.1.2.1).mono ?_
            rintro e z51 ⟨E4a, e4a, E4b, e4b, rfl, v, q⟩
            have I3 := Lib.hid (I3.out.on q)
            have CC := Lib.hid (CC.out.on q)
            have Z10 := Lib.hid (Z10.out.on q)
            have V3 := Lib.hid (V3.out.on q)
            have Z9 := Lib.hid (Z9.out.on q)
            have V4 := Lib.hid v
            clear v q
            refine hK.out _ _ I3.out (fun hHeld => ?_)
            clear hK K
            (try simp only [Act.put, PS])
            refine wpAnyH_ready (rs := [10]) (by kernel_rfl) (by simp) ?_
            refine (AllReadyH.cons (o := _) rfl (fun K hK => ?_) AllReadyH.nil)
            obtain ⟨⟨r0, r1, r2, r3, r4, r5, r6, r7⟩, f0, f1, f2, f3, f4, f5, f6, f7⟩ := bx_did (show Bx _ _ _ #[.string ⟨#[]⟩, .int .i64 0, .slice none 0 0, .slice none 0 0, .int .u64 0, .int .u64 0, .string ⟨#[]⟩, .int .i64 0] from Z9.out.1)
            obtain ⟨nD, gD⟩ := Z9.out.store (i := i3) (s := s3) (k := e3) V3.out
            have cm := Z9.out.calm
            have I3 := Lib.hid (I3.out.kp gD Z9.out.2 N97.out N98.out)
            have CC := Lib.hid (CC.out.kp cm gD)
            have Z10 := Lib.hid (Z10.out.kp gD (Ne.symm NE.out))
            have V4 := Lib.hid (V4.out.kp cm gD)
            have LTp9 := Lib.hid Z9.out.2
            have D9 := Lib.hid nD
            clear nD gD cm Z9 V3
            go_simp
            obtain ⟨z52, hw⟩ : ∃ z, z = ((((((((z51.setCell ⟨p9, 0, none⟩ (.string d3.name)).setCell ⟨p9, 1, none⟩ (.int .i64 d3.st)).setCell ⟨p9, 2, none⟩ (.slice E3a d3.L.length e3a)).setCell ⟨p9, 3, none⟩ (.slice E3b d3.U.length e3b)).setCell ⟨p9, 4, none⟩ (.int .u64 (d3.last : Nat))).setCell ⟨p9, 5, none⟩ (.int .u64 (i3 : Nat))).setCell ⟨p9, 6, none⟩ (.string s3)).setCell ⟨p9, 7, none⟩ (.int .i64 (e3 : Nat))) := ⟨_, rfl⟩
            rw [← hw] at I3 CC Z10 V4 D9 ⊢
            clear hw r0 r1 r2 r3 r4 r5 r6 r7 f0 f1 f2 f3 f4 f5 f6 f7
            refine hK.out _ _ I3.out (fun hHeld => ?_)
            clear hK K
            (try simp only [Act.put, PS])
            refine wpAnyH_ready (rs := [11]) (by kernel_rfl) (by simp) ?_
            refine (AllReadyH.cons (o := _) rfl (fun K hK => ?_) AllReadyH.nil)
            obtain ⟨⟨r0, r1, r2, r3, r4, r5, r6, r7⟩, f0, f1, f2, f3, f4, f5, f6, f7⟩ := bx_did (show Bx _ _ _ #[.string ⟨#[]⟩, .int .i64 0, .slice none 0 0, .slice none 0 0, .int .u64 0, .int .u64 0, .string ⟨#[]⟩, .int .i64 0] from Z10.out.1)
            obtain ⟨nD, gD⟩ := Z10.out.store (i := i4) (s := s4) (k := e4) V4.out
            have cm := Z10.out.calm
            have I3 := Lib.hid (I3.out.kp gD Z10.out.2 N107.out N108.out)
            have CC := Lib.hid (CC.out.kp cm gD)
            have D9 := Lib.hid (D9.out.kp cm gD NE.out)
            have LTp10 := Lib.hid Z10.out.2
            have D10 := Lib.hid nD
            clear nD gD cm Z10 V4
            go_simp
            obtain ⟨z53, hw⟩ : ∃ z, z = ((((((((z52.setCell ⟨p10, 0, none⟩ (.string d4.name)).setCell ⟨p10, 1, none⟩ (.int .i64 d4.st)).setCell ⟨p10, 2, none⟩ (.slice E4a d4.L.length e4a)).setCell ⟨p10, 3, none⟩ (.slice E4b d4.U.length e4b)).setCell ⟨p10, 4, none⟩ (.int .u64 (d4.last : Nat))).setCell ⟨p10, 5, none⟩ (.int .u64 (i4 : Nat))).setCell ⟨p10, 6, none⟩ (.string s4)).setCell ⟨p10, 7, none⟩ (.int .i64 (e4 : Nat))) := ⟨_, rfl⟩
            rw [← hw] at I3 CC D9 D10 ⊢
            clear hw r0 r1 r2 r3 r4 r5 r6 r7 f0 f1 f2 f3 f4 f5 f6 f7
            refine hK.out _ _ I3.out (fun hHeld => ?_)
            clear hK K
            (try simp only [Act.put, PS])
            refine wpAnyH_done (by kernel_rfl) ?_ _
            go_wp2_with fail
            go_meet
            exact ⟨p9, p10, rfl, rfl, In5.of I3.out CC.out, D9.out, D10.out⟩
        · have Z9 := Lib.hid (I3.out.1.newD)
          have NE : Hid (z44.heap.size ≠ p10) := Lib.hid (Nat.ne_of_gt Z10.out.1.lt)
          have N97 : Hid (p7 ≠ z44.heap.size) := Lib.hid (Nat.ne_of_lt I3.out.2.1.lt)
          have N98 : Hid (p8 ≠ z44.heap.size) := Lib.hid (Nat.ne_of_lt I3.out.2.2.lt)
          have q := (Q.refl z44).alloc (.cells zDid 34)
          have I3 := Lib.hid (I3.out.on q)
          have CC := Lib.hid (CC.out.on q)
          have Z10 := Lib.hid (Z10.out.on q)
          clear q
          go_simp
          obtain ⟨z54, hw⟩ : ∃ z, z = z44.alloc (.cells zDid 34) := ⟨_, rfl⟩
          rw [← hw] at I3 CC Z10 Z9
          simp only [zDid] at hw
          rw [← hw]
          obtain ⟨p9, hp⟩ : ∃ p, p = z44.heap.size := ⟨_, rfl⟩
          rw [← hp] at Z9 NE N97 N98 ⊢
          clear hw hp
          refine hK.out _ _ I3.out (fun hHeld => ?_)
          clear hK K
          (try simp only [Act.put, PS])
          refine wpAnyH_ready (rs := [3]) (by kernel_rfl) (by simp) ?_
          refine (AllReadyH.cons (o := _) rfl (fun K hK => ?_) AllReadyH.nil)
          go_simp
          go_at_call 12
          refine (DO3.out _ _ _ _ _ _ _ CC.out.2.1 CC.out.1.2.2).mono ?_
          rintro e z55 ⟨E3a, e3a, E3b, e3b, rfl, v, q⟩
          have I3 := Lib.hid (I3.out.on q)
          have CC := Lib.hid (CC.out.on q)
          have Z10 := Lib.hid (Z10.out.on q)
          have Z9 := Lib.hid (Z9.out.on q)
          have V3 := Lib.hid v
          clear v q
          refine hK.out _ _ I3.out (fun hHeld => ?_)
          clear hK K
          (try simp only [Act.put, PS])
          refine wpAnyH_ready (rs := [7]) (by kernel_rfl) (by simp) ?_
          refine (AllReadyH.cons (o := _) rfl (fun K hK => ?_) AllReadyH.nil)
          go_simp
          go_at_call 12
          refine (DO4.out _ _ _ _ _ _ _ CC.out.2.2 CC.out.1.2.1).mono ?_
          rintro e z56 ⟨E4a, e4a, E4b, e4b, rfl, v, q⟩
          have I3 := Lib.hid (I3.out.on q)
          have CC := Lib.hid (CC.out.on q)
          have Z10 := Lib.hid (Z10.out.on q)
          have Z9 := Lib.hid (Z9.out.on q)
          have V3 := Lib.hid (V3.out.on q)
          have V4 := Lib.hid v
          clear v q
          refine hK.out _ _ I3.out (fun hHeld => ?_)
          clear hK K
          (try simp only [Act.put, PS])
          refine wpAnyH_ready (rs := [10]) (by kernel_rfl) (by simp) ?_
          refine (AllReadyH.cons (o := _) rfl (fun K hK => ?_) AllReadyH.nil)
          obtain ⟨⟨r0, r1, r2, r3, r4, r5, r6, r7⟩, f0, f1, f2, f3, f4, f5, f6, f7⟩ := bx_did (show Bx _ _ _ #[.string ⟨#[]⟩, .int .i64 0, .slice none 0 0, .slice none 0 0, .int .u64 0, .int .u64 0, .string ⟨#[]⟩, .int .i64 0] from Z9.out.1)
          obtain ⟨nD, gD⟩ := Z9.out.store (i := i3) (s := s3) (k := e3) V3.out
          have cm := Z9.out.calm
          have I3 := Lib.hid (I3.out.kp gD Z9.out.2 N97.out N98.out)
          have CC := Lib.hid (CC.out.kp cm gD)
          have Z10 := Lib.hid (Z10.out.kp gD (Ne.symm NE.out))
          have V4 := Lib.hid (V4.out.kp cm gD)
          have LTp9 := Lib.hid Z9.out.2
          have D9 := Lib.hid nD
          clear nD gD cm Z9 V3
          go_simp
          obtain ⟨z57, hw⟩ : ∃ z, z = ((((((((z56.setCell ⟨p9, 0, none⟩ (.string d3.name)).setCell ⟨p9, 1, none⟩ (.int .i64 d3.st)).setCell ⟨p9, 2, none⟩ (.slice E3a d3.L.length e3a)).setCell ⟨p9, 3, none⟩ (.slice E3b d3.U.length e3b)).setCell ⟨p9, 4, none⟩ (.int .u64 (d3.last : Nat))).setCell ⟨p9, 5, none⟩ (.int .u64 (i3 : Nat))).setCell ⟨p9, 6, none⟩ (.string s3)).setCell ⟨p9, 7, none⟩ (.int .i64 (e3 : Nat))) := ⟨_, rfl⟩
          rw [← hw] at I3 CC Z10 V4 D9 ⊢
          clear hw r0 r1 r2 r3 r4 r5 r6 r7 f0 f1 f2 f3 f4 f5 f6 f7
          refine hK.out _ _ I3.out (fun hHeld => ?_)
          clear hK K
          (try simp only [Act.put, PS])
          refine wpAnyH_ready (rs := [11]) (by kernel_rfl) (by simp) ?_
          refine (AllReadyH.cons (o := _) rfl (fun K hK => ?_) AllReadyH.nil)
          obtain ⟨⟨r0, r1, r2, r3, r4, r5, r6, r7⟩, f0, f1, f2, f3, f4, f5, f6, f7⟩ := bx_did (show Bx _ _ _ #[.string ⟨#[]⟩, .int .i64 0, .slice none 0 0, .slice none 0 0, .int .u64 0, .int .u64 0, .string ⟨#[]⟩, .int .i64 0] from Z10.out.1)
          obtain ⟨nD, gD⟩ := Z10.out.store (i := i4) (s := s4) (k := e4) V4.out
          have cm := Z10.out.calm
          have I3 := Lib.hid (I3.out.kp gD Z10.out.2 N107.out N108.out)
          have CC := Lib.hid (CC.out.kp cm gD)
          have D9 := Lib.hid (D9.out.kp cm gD NE.out)
          have LTp10 := Lib.hid Z10.out.2
          have D10 := Lib.hid nD
          clear nD gD cm Z10 V4
          go_simp
          obtain ⟨z58, hw⟩ : ∃ z, z = ((((((((z57.setCell ⟨p10, 0, none⟩ (.string d4.name)).setCell ⟨p10, 1, none⟩ (.int .i64 d4.st)).setCell ⟨p10, 2, none⟩ (.slice E4a d4.L.length e4a)).setCell ⟨p10, 3, none⟩ (.slice E4b d4.U.length e4b)).setCell ⟨p10, 4, none⟩ (.int .u64 (d4.last : Nat))).setCell ⟨p10, 5, none⟩ (.int .u64 (i4 : Nat))).setCell ⟨p10, 6, none⟩ (.string s4)).setCell ⟨p10, 7, none⟩ (.int .i64 (e4 : Nat))) := ⟨_, rfl⟩
          rw [← hw] at I3 CC D9 D10 ⊢
          clear hw r0 r1 r2 r3 r4 r5 r6 r7 f0 f1 f2 f3 f4 f5 f6 f7
          refine hK.out _ _ I3.out (fun hHeld => ?_)
          clear hK K
          (try simp only [Act.put, PS])
          refine wpAnyH_done (by kernel_rfl) ?_ _
          go_wp2_with fail
          go_meet
          exact ⟨p9, p10, rfl, rfl, In5.of I3.out CC.out, D9.out, D10.out⟩
    case rest =>
      obtain ⟨p9, p10, rfl, rfl, K8, hD9, hD10⟩ := hcut
      rename World => wb
      have KK := Lib.hid (And.intro K8 (And.intro hD9 hD10))
      clear K8 hD9 hD10 DO3 DO4 I3 CC
      obtain ⟨u1, u2, u3, u4, hd7, -⟩ := KK.out.1.2.1
      obtain ⟨⟨-, -, -, -, -, -, -, r7⟩, -⟩ := bx_did hd7
      obtain ⟨u5, u6, u7, u8, hd8, -⟩ := KK.out.1.2.2
      obtain ⟨⟨-, -, -, -, -, -, -, r8⟩, -⟩ := bx_did hd8
      obtain ⟨v1, v2, v3, v4, hd9, -⟩ := KK.out.2.1
      obtain ⟨⟨-, -, -, -, -, -, -, r9⟩, -⟩ := bx_did hd9
      obtain ⟨v5, v6, v7, v8, hd10, -⟩ := KK.out.2.2
      obtain ⟨⟨-, -, -, -, -, -, -, r10⟩, -⟩ := bx_did hd10
      clear hd7 hd8 hd9 hd10
      by_cases zn1 : e1 ≠ 0
      · have zz : ((e1 : Int) != 0) = true := by simpa using zn1
        clear zn1
        go_wp2_with fail
        refine (AW.out _).mono ?_
        rintro e w5 ⟨rfl, q5⟩
        have nq := KK.out.1.1.2.2.2.trans q5
        go_wp2
        go_ret
        exact ⟨rfl, nq⟩
      obtain rfl : e1 = 0 := by omega
      clear zn1
      by_cases zn2 : e2 ≠ 0
      · have zz : ((e2 : Int) != 0) = true := by simpa using zn2
        clear zn2
        go_wp2_with fail
        refine (AW.out _).mono ?_
        rintro e w5 ⟨rfl, q5⟩
        have nq := KK.out.1.1.2.2.2.trans q5
        go_wp2
        go_ret
        exact ⟨rfl, nq⟩
      obtain rfl : e2 = 0 := by omega
      clear zn2
      by_cases zn3 : e3 ≠ 0
      · have zz : ((e3 : Int) != 0) = true := by simpa using zn3
        clear zn3
        go_wp2_with fail
        refine (AW.out _).mono ?_
        rintro e w5 ⟨rfl, q5⟩
        have nq := KK.out.1.1.2.2.2.trans q5
        go_wp2
        go_ret
        exact ⟨rfl, nq⟩
      obtain rfl : e3 = 0 := by omega
      clear zn3
      by_cases zn4 : e4 ≠ 0
      · have zz : ((e4 : Int) != 0) = true := by simpa using zn4
        clear zn4
        go_wp2_with fail
        refine (AW.out _).mono ?_
        rintro e w5 ⟨rfl, q5⟩
        have nq := KK.out.1.1.2.2.2.trans q5
        go_wp2
        go_ret
        exact ⟨rfl, nq⟩
      obtain rfl : e4 = 0 := by omega
      clear zn4
      obtain ⟨ok3, ok4, hky, hsim, hlen, hlast⟩ := HF.out rfl rfl rfl rfl
      obtain ⟨f3, f4, fd, fm, ft, fe, hf3, hf4⟩ := find_sim hsim
      have G3 : Hid (∀ z A c A' c', BktV z d3 (.slice A d3.L.length c) (.slice A' d3.U.length c') → Calls Tryz.prog 27 #[bkt d3 (.slice A d3.L.length c) (.slice A' d3.U.length c'), .string X.key] z fun e w' => e = .returned (.tuple #[.agg #[.int .u64 (f3 : Nat), .string fd, .bool fm, .int .i64 ft], .int .i64 fe]) ∧ Q z w') := Lib.hid fun z A c A' c' hv => by
        rw [← hf3]
        exact bGet_yes d3 _ _ z X.key ok3 hky HSM.out.1.1 HSM.out.1.2.1 HSM.out.1.2.2 (by have := HKS.out; omega) hv
      simp only [bkt] at G3
      have G4 : Hid (∀ z A c A' c', BktV z d4 (.slice A d4.L.length c) (.slice A' d4.U.length c') → Calls Tryz.prog 27 #[bkt d4 (.slice A d4.L.length c) (.slice A' d4.U.length c'), .string X.key] z fun e w' => e = .returned (.tuple #[.agg #[.int .u64 (f4 : Nat), .string fd, .bool fm, .int .i64 ft], .int .i64 fe]) ∧ Q z w') := Lib.hid fun z A c A' c' hv => by
        rw [← hf4]
        exact bGet_yes d4 _ _ z X.key ok4 hky HSM.out.2.1 HSM.out.2.2.1 HSM.out.2.2.2 (by have := HKS.out; omega) hv
      simp only [bkt] at G4
      have HLEN := Lib.hid hlen
      have HLAST := Lib.hid hlast
      clear ok3 ok4 hky hsim hlen hlast hf3 hf4 HF HSM HKS
      obtain ⟨v1, v2, v3, v4, hd9, hb9⟩ := KK.out.2.1
      obtain ⟨⟨c0, c1, c2, c3, c4, -, -, -⟩, -⟩ := bx_did hd9
      obtain ⟨u1, u2, hbx, -⟩ := KK.out.1.1.2.1
      obtain ⟨⟨-, k1, -, -, -, -, -⟩, -⟩ := bx_act hbx
      have C := Lib.hid (G3.out _ _ _ _ _ hb9)
      clear hd9 hb9 hbx G3
      go_wp2_with fail
      refine (C.out).mono ?_
      rintro e w5 ⟨rfl, q5⟩
      have KL := Lib.hid (And.intro ((KK.out.1.on q5).on ((Q.refl w5).alloc (.cells #[.int .u64 (f3 : Nat), .string fd, .bool fm, .int .i64 ft] 49))) (And.intro ((KK.out.2.1.on q5).on ((Q.refl w5).alloc (.cells #[.int .u64 (f3 : Nat), .string fd, .bool fm, .int .i64 ft] 49))) (And.intro ((KK.out.2.2.on q5).on ((Q.refl w5).alloc (.cells #[.int .u64 (f3 : Nat), .string fd, .bool fm, .int .i64 ft] 49))) (Bx.new w5 49 #[.int .u64 (f3 : Nat), .string fd, .bool fm, .int .i64 ft]))))
      clear C KK q5 k1 c0 c1 c2 c3 c4 r7 r8 r9 r10
      go_upto_region 9 with fail
      obtain ⟨x7, hx7⟩ : ∃ z, z = w5.alloc (.cells #[.int .u64 (f3 : Nat), .string fd, .bool fm, .int .i64 ft] 49) := ⟨_, rfl⟩
      rw [← hx7] at KL ⊢
      obtain ⟨pv, hpv⟩ : ∃ z, z = w5.heap.size := ⟨_, rfl⟩
      rw [← hpv] at KL ⊢
      clear hx7 hpv
      obtain ⟨v1, v2, v3, v4, hd9, hb9⟩ := KL.out.2.2.1
      obtain ⟨⟨c0, c1, c2, c3, c4, -, -, -⟩, -⟩ := bx_did hd9
      obtain ⟨u1, u2, hbx, -⟩ := KL.out.1.1.2.1
      obtain ⟨⟨-, k1, -, -, -, -, -⟩, -⟩ := bx_act hbx
      have C := Lib.hid (G4.out _ _ _ _ _ hb9)
      clear hd9 hb9 hbx G4
      go_wp2_with fail
      refine (C.out).mono ?_
      rintro e w6 ⟨rfl, q6⟩
      have KM := Lib.hid (And.intro ((KL.out.1.on q6).on ((Q.refl w6).alloc (.cells #[.int .u64 (f4 : Nat), .string fd, .bool fm, .int .i64 ft] 49))) (And.intro ((KL.out.2.1.on q6).on ((Q.refl w6).alloc (.cells #[.int .u64 (f4 : Nat), .string fd, .bool fm, .int .i64 ft] 49))) (And.intro ((KL.out.2.2.1.on q6).on ((Q.refl w6).alloc (.cells #[.int .u64 (f4 : Nat), .string fd, .bool fm, .int .i64 ft] 49))) (And.intro ((KL.out.2.2.2.on q6).on ((Q.refl w6).alloc (.cells #[.int .u64 (f4 : Nat), .string fd, .bool fm, .int .i64 ft] 49))) (Bx.new w6 49 #[.int .u64 (f4 : Nat), .string fd, .bool fm, .int .i64 ft])))))
      clear C KL q6 k1 c0 c1 c2 c3 c4
      go_upto_region 10 with fail
      obtain ⟨x8, hx8⟩ : ∃ z, z = w6.alloc (.cells #[.int .u64 (f4 : Nat), .string fd, .bool fm, .int .i64 ft] 49) := ⟨_, rfl⟩
      rw [← hx8] at KM ⊢
      obtain ⟨pw, hpw⟩ : ∃ z, z = w6.heap.size := ⟨_, rfl⟩
      rw [← hpw] at KM ⊢
      clear hx8 hpw
      obtain ⟨⟨a0, a1, a2, a3⟩, -⟩ := bx_ver KM.out.2.2.2.1
      obtain ⟨⟨b0, b1, b2, b3⟩, -⟩ := bx_ver KM.out.2.2.2.2
      obtain ⟨u1, u2, u3, u4, hbb, -⟩ := KM.out.1.1.1
      obtain ⟨-, m1, -, -, -⟩ := bx_bkt hbb
      obtain ⟨v1, v2, v3, v4, hd9, -⟩ := KM.out.2.1
      obtain ⟨⟨-, -, c2, -, c4, -, -, -⟩, -⟩ := bx_did hd9
      obtain ⟨v5, v6, v7, v8, hd10, -⟩ := KM.out.2.2.1
      obtain ⟨⟨-, -, l2, -, l4, -, -, -⟩, -⟩ := bx_did hd10
      rw [HLEN.out] at c2
      clear hbb hd9 hd10 HLEN
      by_cases hs : B.st = 1
      · have hs2 : (B.st == 1) = true := by rw [hs]; rfl
        clear hs HLAST
        go_wp2_with fail
        refine (AW.out _).mono ?_
        rintro e w5 ⟨rfl, q5⟩
        have nq := KM.out.1.1.2.2.2.trans q5
        go_wp2
        go_ret
        exact ⟨rfl, nq⟩
      · rw [HLAST.out hs] at c4
        have hs2 : (B.st == 1) = false := by simpa using hs
        clear hs HLAST
        go_wp2_with fail
        refine (AW.out _).mono ?_
        rintro e w5 ⟨rfl, q5⟩
        have nq := KM.out.1.1.2.2.2.trans q5
        go_wp2
        go_ret
        exact ⟨rfl, nq⟩

set_option maxRecDepth 100000 in
theorem lifted (os : Os) (started : os.Started) (H : Type) (enc : TypeId × Value → H) :
    ReturnsInHanded {} Tryz.checked os 8 .any (Rows.bucketTurnsSpec.pre6 enc Tryz.prog Tryz.f8 Rows.bucketTurnsRow.domain false) (Rows.bucketTurnsSpec.post enc Tryz.prog Tryz.f8 false true false false) := by
  refine returnsInHanded_of_change (C := Tryz.checked) own started (by kernel_rfl) Tryz.func8
    (ChangeSpec.witness6 (enc := enc) (C := Tryz.checked) false ⟨#[], #[.agg #[.string ByteArray.empty, .int .i64 0, .slice none 0 0, .slice none 0 0, .int .u64 0], .agg #[.int .u8 0, .string ByteArray.empty, .string ByteArray.empty, .int .u64 0, .int .i64 0, .int .i64 0, .slice none 0 0], .agg #[.int .u8 0, .string ByteArray.empty, .string ByteArray.empty, .int .u64 0, .int .i64 0, .int .i64 0, .slice none 0 0]], []⟩ 8 (by kernel_rfl) (by kernel_rfl) (by kernel_rfl) (by kernel_rfl)) ?_
  intro W base args ds gs before hval0 hW hcnd _
  have hval : ∀ (j : Nat) t v, Tryz.f8.params[j]? = some t → args[j]? = some v → Value.okWide Tryz.prog W .any base t v := hval0
  have hW' := hW
  obtain ⟨p, q, hA0, hV, rfl, hfz, hnd⟩ := hW
  have hA : DataW.TrodAll enc Tryz.prog W 0 (fun _ => true) true Tryz.f8.params.toList args.toList ds p := hA0
  rw [Tryz.params8] at hA hval
  obtain ⟨v0, vs0, d0, ds0, p0, q0, hargs, rfl, rfl, h0, r0⟩ := trodAll_cons hA
  obtain ⟨v1, vs1, d1, ds1, p1, q1, rfl, rfl, rfl, h1, r1⟩ := trodAll_cons r0
  obtain ⟨v2, vs2, d2, ds2, p2, q2, rfl, rfl, rfl, h2, r2⟩ := trodAll_cons r1
  obtain ⟨rfl, rfl, rfl⟩ := trodAll_nil r2
  obtain rfl : args = #[v0, v1, v2] := by cases args; simp_all
  obtain ⟨rfl, rfl⟩ := trodVars_none hV
  clear hA0 hval0
  simp only [List.append_nil] at hW'
  have hlt : ∀ x ∈ p0 ++ p1 ++ p2, x.block < W.heap.size := fun x hx => by simpa using hW'.lt x (by simpa using hx)
  obtain ⟨b0, lv0, uv0, rfl, t0⟩ := open_bkt (hval 0 26 v0 rfl rfl) h0
  obtain ⟨x1, y1, rfl, u1, t1⟩ := open_act (hval 1 29 v1 rfl rfl) h1
  obtain ⟨x2, y2, rfl, u2, t2⟩ := open_act (hval 2 29 v2 rfl rfl) h2
  refine (walk b0 lv0 uv0 x1 y1 x2 y2 W t0 u1 t1 u2 t2).mono fun e W' ⟨he, bel⟩ => ?_
  subst he
  refine ⟨_, rfl, _, _, _, [], _, [], hW', trodAll_mk1 (shut_bool Tryz.underlying4 _), (trodAll_cons_mk (Below.trod laid (by kernel_rfl) (of_decide_eq_true (by kernel_rfl)) h0 bel (fun x hx => hlt x (by simp [hx]))) (trodAll_cons_mk (Below.trod laid (by kernel_rfl) (of_decide_eq_true (by kernel_rfl)) h1 bel (fun x hx => hlt x (by simp [hx]))) (trodAll_cons_mk (Below.trod laid (by kernel_rfl) (of_decide_eq_true (by kernel_rfl)) h2 bel (fun x hx => hlt x (by simp [hx]))) trodAll_mk0))), rfl, Below.frame bel _, fun h => by cases h⟩

theorem over : Rows.bucketTurnsRow.holds Tryz.pinned (OpenSpec.ofChange Rows.bucketTurnsSpec) :=
  OpenClaim.holds_of_wide 8 Tryz.f8 rfl rfl rfl rfl rfl rfl rfl ⟨rfl, rfl, rfl, rfl, rfl⟩ rfl rfl rfl rfl rfl (by kernel_rfl) Tryz.func8 (by kernel_rfl)
    (of_decide_eq_true (by kernel_rfl)) (by unfold Func.isWrapper; first | (rw [if_pos (by decide +kernel)]; kernel_rfl) | (rw [if_neg (by decide +kernel)]; exact ⟨rfl, rfl⟩))
    (fun os started H enc _ => lifted os started H enc)

theorem proved : Rows.BucketTurnsSaid := over
#print axioms proved
end Go.Proofs.YtjjlbbfhmpbneaaGreat.bucketTurns
