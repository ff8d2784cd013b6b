/-
  Ways through PagerSizes.
-/
import Derived.Test.YtipipjpdlblifaaGSizes
import Derived.Deep.RegionHeld3
namespace Go.Proofs.Ytipipjpdlblifaa.pagerSizes
open Go.ChangeShapes Go.WideShapes Go.ChangeAt Go.RowKit
open Go.ChangeMaps (open_string shut_string)
set_option linter.unusedVariables false
set_option linter.unusedSimpArgs false

set_option maxHeartbeats 8000000 in
set_option maxRecDepth 100000 in
theorem w_gt_k_true (u : Value) (l : List Ent) (pp dd key : ByteArray) (id : Nat) (m : Int) (x y : Nat) (hx : x ≤ 255) (hy : y ≤ 255) (hxy : y < x) (P1 P2 : Pg) (L : List Ent) (k d a : ByteArray) (w : World) (t0 : Ents w w.heap.size u l) (z0 : l.length ≤ maxLen) (sp : pp.size ≤ maxLen) (sd : dd.size ≤ maxLen) (sk : key.size ≤ maxLen) (hL1 : L.length ≤ 1000)
    (CU : Hid (∀ b, Q w b → Calls Try.prog 10 #[.agg #[u, .string pp, .string dd, .string key, .int .u64 (id : Nat), .int .i64 m]] b fun e w' => ∃ u', e = .returned (.agg #[u', .string k, .string d, .string a, .int .u64 (id : Nat), .int .i64 m]) ∧ Ents w' w'.heap.size u' L ∧ Q b w'))
    (K1 : Hid (∀ b v, Ents b b.heap.size v L → Calls Try.prog 11 #[v, .string k, .string d, .string a, .int .i64 (y : Nat)] b (KeysR b P1 0)))
    (K2 : Hid (∀ b v, Ents b b.heap.size v L → Calls Try.prog 11 #[v, .string k, .string d, .string a, .int .i64 (x : Nat)] b (KeysR b P2 0)))
    (K3 : Hid (∀ b v, Ents b b.heap.size v L → Calls Try.prog 11 #[v, .string k, .string d, .string a, .int .i64 0] b (KeysR b (⟨[], [], true, ⟨#[]⟩⟩ : Pg) 0)))
    (hm1 : P1.more = true) (hm2 : P2.more = true) (hkp : 0 < P2.keys.length + P2.grps.length) (s1 : P1.keys.length ≤ P2.keys.length) (s2 : P1.grps.length ≤ P2.grps.length) (s3 : P2.keys.take P1.keys.length = P1.keys) (s4 : P2.grps.take P1.grps.length = P1.grps) (hk1 : P2.keys.length ≤ 1000) (hk2 : P2.grps.length ≤ 1000) :
    Calls Try.prog 9 #[.agg #[u, .string pp, .string dd, .string key, .int .u64 (id : Nat), .int .i64 m], .int .u8 (x : Nat), .int .u8 (y : Nat)] w fun e w' => e = .returned (.bool true) ∧ Q w w' := by
  have hx2 : (y : Int) ≤ 255 := by omega
  have hy2 : (x : Int) ≤ 255 := by omega
  have z1 : (y : Int) < (x : Int) := by omega
  have z2 : ¬ (x : Int) < (y : Int) := by omega
  have z3 : ¬ (x : Int) ≤ (y : Int) := by omega
  have z4 : ¬ (y : Int) = (x : Int) := by omega
  have z5 : ¬ (x : Int) = (y : Int) := by omega
  have hm1' := hm1
  unfold KeysR at K1 K2 K3
  simp only [hm2, hm1, List.length_nil] at K1 K2 K3
  have qb : Q w (w.alloc (.cells #[u, .string pp, .string dd, .string key, .int .u64 (id : Nat), .int .i64 m] 25)) := (Q.refl w).alloc _
  have bx := Bx.new w 25 #[u, .string pp, .string dd, .string key, .int .u64 (id : Nat), .int .i64 m]
  obtain ⟨A0, c0, rfl⟩ := t0.form
  go_enter Try.func9, Try.ntmps9
  go_wp2_with fail
  refine (CU.out _ qb).mono ?_
  rintro e w1 ⟨u1, rfl, e1, q1⟩
  obtain ⟨A1, c1, rfl⟩ := e1.form
  have bq := bx.on q1
  have x0 := bq.cell 0
  have x1 := bq.cell 1
  have x2 := bq.cell 2
  have x3 := bq.cell 3
  have x4 := bq.cell 4
  have x5 := bq.cell 5
  have f0 := bq.frozen 0
  have f1 := bq.frozen 1
  have f2 := bq.frozen 2
  have f3 := bq.frozen 3
  have f4 := bq.frozen 4
  have f5 := bq.frozen 5
  simp only [List.getElem?_toArray, List.getElem?_cons_zero, List.getElem?_cons_succ] at x0 x1 x2 x3 x4 x5
  obtain ⟨wA, hwA⟩ : ∃ wA, wA = (((((w1.setCell ⟨w.heap.size, 0, none⟩ (.slice A1 L.length c1)).setCell ⟨w.heap.size, 1, none⟩ (.string k)).setCell ⟨w.heap.size, 2, none⟩ (.string d)).setCell ⟨w.heap.size, 3, none⟩ (.string a)).setCell ⟨w.heap.size, 4, none⟩ (.int .u64 (id : Nat))).setCell ⟨w.heap.size, 5, none⟩ (.int .i64 m) := ⟨_, rfl⟩
  have bA : Bx wA w.heap.size 25 #[.slice A1 L.length c1, .string k, .string d, .string a, .int .u64 (id : Nat), .int .i64 m] := by
    rw [hwA]; exact (((((bq.set 0 _).set 1 _).set 2 _).set 3 _).set 4 _).set 5 _
  have qA : Q w wA := by rw [hwA]; exact Q.set (Q.set (Q.set (Q.set (Q.set (Q.set (qb.trans q1) (Nat.le_refl _) _) (Nat.le_refl _) _) (Nat.le_refl _) _) (Nat.le_refl _) _) (Nat.le_refl _) _) (Nat.le_refl _) _
  have t1 : Hid (Ents wA wA.heap.size (.slice A1 L.length c1) L) := Lib.hid (e1.boxed (B := w.heap.size) (t := 25) bq (fun j hj => by rw [hwA]; exact (heap_set _ _ _ _ hj).trans ((heap_set _ _ _ _ hj).trans ((heap_set _ _ _ _ hj).trans ((heap_set _ _ _ _ hj).trans ((heap_set _ _ _ _ hj).trans (heap_set _ _ _ _ hj)))))) (by rw [hwA]; simp))
  have HWA := Lib.hid hwA
  clear bx bq e1 q1 qb t0 hwA
  go_wp2_with fail
  rw [← HWA.out]
  clear HWA x0 x1 x2 x3 x4 x5 f0 f1 f2 f3 f4 f5
  refine (K1.out _ _ t1.out).mono ?_
  rintro e w2 ⟨A1, c1, B1, d1, r1, rfl, e2, g2, q2⟩
  have T1 := Lib.hid e2
  have G1 := Lib.hid g2
  clear e2 g2
  have n1 := Bx.new w2 29 #[.slice A1 P1.keys.length c1, .slice B1 P1.grps.length d1, .bool true, .string P1.last]
  have m2 := (Q.refl w2).alloc (.cells #[.slice A1 P1.keys.length c1, .slice B1 P1.grps.length d1, .bool true, .string P1.last] 29)
  have q2' := q2.trans m2
  have bKx := bA.on q2'
  have x0 := bKx.cell 0
  have x1 := bKx.cell 1
  have x2 := bKx.cell 2
  have x3 := bKx.cell 3
  have x5 := bKx.cell 5
  simp only [List.getElem?_toArray, List.getElem?_cons_zero, List.getElem?_cons_succ] at x0 x1 x2 x3 x5
  obtain ⟨w3, hw3⟩ : ∃ w3, w3 = w2.alloc (.cells #[.slice A1 P1.keys.length c1, .slice B1 P1.grps.length d1, .bool true, .string P1.last] 29) := ⟨_, rfl⟩
  rw [← hw3] at n1 m2 q2'
  have HW3 := Lib.hid hw3
  clear hw3 bKx
  go_wp2_with fail
  rw [← HW3.out]
  refine (K2.out _ _ (t1.out.on q2')).mono ?_
  rintro e w4 ⟨A2, c2, B2, d2, r2, rfl, e2, g2, q4⟩
  have T2 := Lib.hid e2
  have G2 := Lib.hid g2
  clear e2 g2 x0 x1 x2 x3 x5
  have n2 := Bx.new w4 29 #[.slice A2 P2.keys.length c2, .slice B2 P2.grps.length d2, .bool true, .string P2.last]
  have m4 := (Q.refl w4).alloc (.cells #[.slice A2 P2.keys.length c2, .slice B2 P2.grps.length d2, .bool true, .string P2.last] 29)
  have q4' := (q2'.trans q4).trans m4
  have bKx := bA.on q4'
  have x0 := bKx.cell 0
  have x1 := bKx.cell 1
  have x2 := bKx.cell 2
  have x3 := bKx.cell 3
  have x5 := bKx.cell 5
  simp only [List.getElem?_toArray, List.getElem?_cons_zero, List.getElem?_cons_succ] at x0 x1 x2 x3 x5
  obtain ⟨w5, hw5⟩ : ∃ w5, w5 = w4.alloc (.cells #[.slice A2 P2.keys.length c2, .slice B2 P2.grps.length d2, .bool true, .string P2.last] 29) := ⟨_, rfl⟩
  rw [← hw5] at n2 m4 q4'
  have HW5 := Lib.hid hw5
  clear hw5 bKx
  go_wp2_with fail
  rw [← HW5.out]
  refine (K3.out _ _ (t1.out.on q4')).mono ?_
  rintro e w6 ⟨A3, c3, B3, d3, r3, rfl, e2, g2, q6⟩
  clear e2 g2 x0 x1 x2 x3 x5
  have b3 := Bx.new w6 29 #[.slice A3 0 c3, .slice B3 0 d3, .bool true, .string ⟨#[]⟩]
  have m6 := (Q.refl w6).alloc (.cells #[.slice A3 0 c3, .slice B3 0 d3, .bool true, .string ⟨#[]⟩] 29)
  have b2 := (n2.on q6).on m6
  have b1 := (((n1.on q4).on m4).on q6).on m6
  have qz := (q4'.trans q6).trans m6
  have T1z := Lib.hid (T1.out.on ((m2.trans q4).trans ((m4.trans q6).trans m6)))
  have G1z := Lib.hid (G1.out.on ((m2.trans q4).trans ((m4.trans q6).trans m6)))
  have T2z := Lib.hid (T2.out.on ((m4.trans q6).trans m6))
  have G2z := Lib.hid (G2.out.on ((m4.trans q6).trans m6))
  clear T1 G1 T2 G2
  obtain ⟨wz, hwz⟩ : ∃ wz, wz = w6.alloc (.cells #[.slice A3 0 c3, .slice B3 0 d3, .bool true, .string ⟨#[]⟩] 29) := ⟨_, rfl⟩
  have X10 := b1.cell 0
  have X11 := b1.cell 1
  have X12 := b1.cell 2
  have X20 := b2.cell 0
  have X21 := b2.cell 1
  have X22 := b2.cell 2
  simp only [List.getElem?_toArray, List.getElem?_cons_zero, List.getElem?_cons_succ] at X10 X11 X12 X20 X21 X22
  rw [← hwz] at b1 b2 b3 qz T1z G1z T2z G2z
  have HWZ := Lib.hid hwz
  have SK := same_yes P1.keys (by omega)
  have SG := same_yes P1.grps (by omega)
  have T2c := Lib.hid (by have := T2z.out.take s1; rwa [s3] at this)
  have G2c := Lib.hid (by have := G2z.out.take s2; rwa [s4] at this)
  have u1' : ¬ (P2.keys.length : Int) < (P1.keys.length : Int) := by omega
  have u2' : ¬ (P2.grps.length : Int) < (P1.grps.length : Int) := by omega
  have u3' : (P1.keys.length : Int) ≤ (c2 : Int) := by omega
  have u4' : (P1.grps.length : Int) ≤ (d2 : Int) := by omega
  have kk : (0 : Int) < (P2.keys.length : Int) + (P2.grps.length : Int) := by omega
  clear hwz s3 s4 T2z G2z hkp hm1 hm1' hm2
  go_wp2_with fail
  rw [← HWZ.out]
  clear X10 X11 X12 X20 X21 X22
  refine wp_region_held_drew (S := fun x => (Bx x w2.heap.size 29 #[.slice A1 P1.keys.length c1, .slice B1 P1.grps.length d1, .bool true, .string P1.last] ∧ Bx x w4.heap.size 29 #[.slice A2 P2.keys.length c2, .slice B2 P2.grps.length d2, .bool true, .string P2.last] ∧ Bx x w6.heap.size 29 #[.slice A3 0 c3, .slice B3 0 d3, .bool true, .string ⟨#[]⟩]) ∧ Q wz x) (by kernel_rfl) ⟨⟨b1.on (Q.refl _).drew, b2.on (Q.refl _).drew, b3.on (Q.refl _).drew⟩, (Q.refl _).drew⟩ (fun hHeld => ?_)
  refine wpAnyH_take (i := 0) (oi := _) (v := ?_) rfl (by kernel_rfl) (by kernel_rfl) (by kernel_rfl) (fun _ _ _ h => h) (Or.inl ⟨by rfl, ?_⟩) (by assumption) ?_
  rotate_left
  · (intro wx hSw; (try dsimp only at hSw); skip; go_simp; (try with_reducible rfl))
  (try simp only [Act.put, List.getElem_toArray, List.getElem_cons_zero, List.getElem_cons_succ, List.setIfInBounds_toArray, List.set_cons_zero, List.set_cons_succ])
  refine wpAnyH_take (i := 1) (oi := _) (v := ?_) rfl (by kernel_rfl) (by kernel_rfl) (by kernel_rfl) (fun _ _ _ h => h) (Or.inl ⟨by rfl, ?_⟩) (by assumption) ?_
  rotate_left
  · (intro wx hSw; (try dsimp only at hSw); have hy := hSw.1.1.cell 0; simp only [List.getElem?_toArray, List.getElem?_cons_zero, List.getElem?_cons_succ] at hy; go_simp; (try with_reducible rfl))
  (try simp only [Act.put, List.getElem_toArray, List.getElem_cons_zero, List.getElem_cons_succ, List.setIfInBounds_toArray, List.set_cons_zero, List.set_cons_succ])
  refine wpAnyH_take (i := 2) (oi := _) (v := ?_) rfl (by kernel_rfl) (by kernel_rfl) (by kernel_rfl) (fun _ _ _ h => h) (Or.inl ⟨by rfl, ?_⟩) (by assumption) ?_
  rotate_left
  · (intro wx hSw; (try dsimp only at hSw); skip; go_simp; (try with_reducible rfl))
  (try simp only [Act.put, List.getElem_toArray, List.getElem_cons_zero, List.getElem_cons_succ, List.setIfInBounds_toArray, List.set_cons_zero, List.set_cons_succ])
  refine wpAnyH_take (i := 3) (oi := _) (v := ?_) rfl (by kernel_rfl) (by kernel_rfl) (by kernel_rfl) (fun _ _ _ h => h) (Or.inl ⟨by rfl, ?_⟩) (by assumption) ?_
  rotate_left
  · (intro wx hSw; (try dsimp only at hSw); have hy := hSw.1.2.1.cell 0; simp only [List.getElem?_toArray, List.getElem?_cons_zero, List.getElem?_cons_succ] at hy; go_simp; (try with_reducible rfl))
  (try simp only [Act.put, List.getElem_toArray, List.getElem_cons_zero, List.getElem_cons_succ, List.setIfInBounds_toArray, List.set_cons_zero, List.set_cons_succ])
  refine wpAnyH_take (i := 4) (oi := _) (v := ?_) rfl (by kernel_rfl) (by kernel_rfl) (by kernel_rfl) (fun _ _ _ h => h) (Or.inl ⟨by rfl, ?_⟩) (by assumption) ?_
  rotate_left
  · (intro wx hSw; (try dsimp only at hSw); skip; go_simp; (try with_reducible rfl))
  (try simp only [Act.put, List.getElem_toArray, List.getElem_cons_zero, List.getElem_cons_succ, List.setIfInBounds_toArray, List.set_cons_zero, List.set_cons_succ])
  refine wpAnyH_take (i := 5) (oi := _) (v := ?_) rfl (by kernel_rfl) (by kernel_rfl) (by kernel_rfl) (fun _ _ _ h => h) (Or.inl ⟨by rfl, ?_⟩) (by assumption) ?_
  rotate_left
  · (intro wx hSw; (try dsimp only at hSw); have hy := hSw.1.1.cell 0; simp only [List.getElem?_toArray, List.getElem?_cons_zero, List.getElem?_cons_succ] at hy; go_simp; (try with_reducible rfl))
  (try simp only [Act.put, List.getElem_toArray, List.getElem_cons_zero, List.getElem_cons_succ, List.setIfInBounds_toArray, List.set_cons_zero, List.set_cons_succ])
  refine wpAnyH_take (i := 6) (oi := _) (v := ?_) rfl (by kernel_rfl) (by kernel_rfl) (by kernel_rfl) (fun _ _ _ h => h) (Or.inl ⟨by rfl, ?_⟩) (by assumption) ?_
  rotate_left
  · (intro wx hSw; (try dsimp only at hSw); skip; go_simp; (try with_reducible rfl))
  (try simp only [Act.put, List.getElem_toArray, List.getElem_cons_zero, List.getElem_cons_succ, List.setIfInBounds_toArray, List.set_cons_zero, List.set_cons_succ])
  refine wpAnyH_take (i := 7) (oi := _) (v := ?_) rfl (by kernel_rfl) (by kernel_rfl) (by kernel_rfl) (fun _ _ _ h => h) (Or.inl ⟨by rfl, ?_⟩) (by assumption) ?_
  rotate_left
  · (intro wx hSw; (try dsimp only at hSw); skip; go_simp; (try with_reducible rfl))
  (try simp only [Act.put, List.getElem_toArray, List.getElem_cons_zero, List.getElem_cons_succ, List.setIfInBounds_toArray, List.set_cons_zero, List.set_cons_succ])
  refine wpAnyH_ready (rs := [8]) (by kernel_rfl) (by simp) ?_
  refine AllReadyH.cons (o := _) rfl (fun K hK => ?_) AllReadyH.nil
  go_simp
  go_at_call 15
  refine (SK.out _ _ _ (T1z.out.on hHeld.2) (T2c.out.on hHeld.2)).mono ?_
  rintro e w8 ⟨rfl, q8⟩
  refine hK.out _ _ ⟨⟨hHeld.1.1.on q8, hHeld.1.2.1.on q8, hHeld.1.2.2.on q8⟩, hHeld.2.trans q8⟩ (fun hHeld => ?_)
  clear hK K
  (try simp only [Act.put, List.getElem_toArray, List.getElem_cons_zero, List.getElem_cons_succ, List.setIfInBounds_toArray, List.set_cons_zero, List.set_cons_succ])
  refine wpAnyH_take (i := 9) (oi := _) (v := ?_) rfl (by kernel_rfl) (by kernel_rfl) (by kernel_rfl) (fun _ _ _ h => h) (Or.inl ⟨by rfl, ?_⟩) (by assumption) ?_
  rotate_left
  · (intro wx hSw; (try dsimp only at hSw); skip; go_simp; (try with_reducible rfl))
  (try simp only [Act.put, List.getElem_toArray, List.getElem_cons_zero, List.getElem_cons_succ, List.setIfInBounds_toArray, List.set_cons_zero, List.set_cons_succ])
  refine wpAnyH_take (i := 10) (oi := _) (v := ?_) rfl (by kernel_rfl) (by kernel_rfl) (by kernel_rfl) (fun _ _ _ h => h) (Or.inl ⟨by rfl, ?_⟩) (by assumption) ?_
  rotate_left
  · (intro wx hSw; (try dsimp only at hSw); skip; go_simp; (try with_reducible rfl))
  (try simp only [Act.put, List.getElem_toArray, List.getElem_cons_zero, List.getElem_cons_succ, List.setIfInBounds_toArray, List.set_cons_zero, List.set_cons_succ])
  refine wpAnyH_take (i := 11) (oi := _) (v := ?_) rfl (by kernel_rfl) (by kernel_rfl) (by kernel_rfl) (fun _ _ _ h => h) (Or.inl ⟨by rfl, ?_⟩) (by assumption) ?_
  rotate_left
  · (intro wx hSw; (try dsimp only at hSw); have hy := hSw.1.1.cell 1; simp only [List.getElem?_toArray, List.getElem?_cons_zero, List.getElem?_cons_succ] at hy; go_simp; (try with_reducible rfl))
  (try simp only [Act.put, List.getElem_toArray, List.getElem_cons_zero, List.getElem_cons_succ, List.setIfInBounds_toArray, List.set_cons_zero, List.set_cons_succ])
  refine wpAnyH_take (i := 12) (oi := _) (v := ?_) rfl (by kernel_rfl) (by kernel_rfl) (by kernel_rfl) (fun _ _ _ h => h) (Or.inl ⟨by rfl, ?_⟩) (by assumption) ?_
  rotate_left
  · (intro wx hSw; (try dsimp only at hSw); skip; go_simp; (try with_reducible rfl))
  (try simp only [Act.put, List.getElem_toArray, List.getElem_cons_zero, List.getElem_cons_succ, List.setIfInBounds_toArray, List.set_cons_zero, List.set_cons_succ])
  refine wpAnyH_take (i := 13) (oi := _) (v := ?_) rfl (by kernel_rfl) (by kernel_rfl) (by kernel_rfl) (fun _ _ _ h => h) (Or.inl ⟨by rfl, ?_⟩) (by assumption) ?_
  rotate_left
  · (intro wx hSw; (try dsimp only at hSw); have hy := hSw.1.2.1.cell 1; simp only [List.getElem?_toArray, List.getElem?_cons_zero, List.getElem?_cons_succ] at hy; go_simp; (try with_reducible rfl))
  (try simp only [Act.put, List.getElem_toArray, List.getElem_cons_zero, List.getElem_cons_succ, List.setIfInBounds_toArray, List.set_cons_zero, List.set_cons_succ])
  refine wpAnyH_take (i := 14) (oi := _) (v := ?_) rfl (by kernel_rfl) (by kernel_rfl) (by kernel_rfl) (fun _ _ _ h => h) (Or.inl ⟨by rfl, ?_⟩) (by assumption) ?_
  rotate_left
  · (intro wx hSw; (try dsimp only at hSw); skip; go_simp; (try with_reducible rfl))
  (try simp only [Act.put, List.getElem_toArray, List.getElem_cons_zero, List.getElem_cons_succ, List.setIfInBounds_toArray, List.set_cons_zero, List.set_cons_succ])
  refine wpAnyH_take (i := 15) (oi := _) (v := ?_) rfl (by kernel_rfl) (by kernel_rfl) (by kernel_rfl) (fun _ _ _ h => h) (Or.inl ⟨by rfl, ?_⟩) (by assumption) ?_
  rotate_left
  · (intro wx hSw; (try dsimp only at hSw); have hy := hSw.1.1.cell 1; simp only [List.getElem?_toArray, List.getElem?_cons_zero, List.getElem?_cons_succ] at hy; go_simp; (try with_reducible rfl))
  (try simp only [Act.put, List.getElem_toArray, List.getElem_cons_zero, List.getElem_cons_succ, List.setIfInBounds_toArray, List.set_cons_zero, List.set_cons_succ])
  refine wpAnyH_take (i := 16) (oi := _) (v := ?_) rfl (by kernel_rfl) (by kernel_rfl) (by kernel_rfl) (fun _ _ _ h => h) (Or.inl ⟨by rfl, ?_⟩) (by assumption) ?_
  rotate_left
  · (intro wx hSw; (try dsimp only at hSw); skip; go_simp; (try with_reducible rfl))
  (try simp only [Act.put, List.getElem_toArray, List.getElem_cons_zero, List.getElem_cons_succ, List.setIfInBounds_toArray, List.set_cons_zero, List.set_cons_succ])
  refine wpAnyH_take (i := 17) (oi := _) (v := ?_) rfl (by kernel_rfl) (by kernel_rfl) (by kernel_rfl) (fun _ _ _ h => h) (Or.inl ⟨by rfl, ?_⟩) (by assumption) ?_
  rotate_left
  · (intro wx hSw; (try dsimp only at hSw); skip; go_simp; (try with_reducible rfl))
  (try simp only [Act.put, List.getElem_toArray, List.getElem_cons_zero, List.getElem_cons_succ, List.setIfInBounds_toArray, List.set_cons_zero, List.set_cons_succ])
  refine wpAnyH_ready (rs := [18]) (by kernel_rfl) (by simp) ?_
  refine AllReadyH.cons (o := _) rfl (fun K hK => ?_) AllReadyH.nil
  go_simp
  go_at_call 15
  refine (SG.out _ _ _ (G1z.out.on hHeld.2) (G2c.out.on hHeld.2)).mono ?_
  rintro e w9 ⟨rfl, q9⟩
  refine hK.out _ _ ⟨⟨hHeld.1.1.on q9, hHeld.1.2.1.on q9, hHeld.1.2.2.on q9⟩, hHeld.2.trans q9⟩ (fun hHeld => ?_)
  clear hK K
  (try simp only [Act.put, List.getElem_toArray, List.getElem_cons_zero, List.getElem_cons_succ, List.setIfInBounds_toArray, List.set_cons_zero, List.set_cons_succ])
  refine wpAnyH_take (i := 19) (oi := _) (v := ?_) rfl (by kernel_rfl) (by kernel_rfl) (by kernel_rfl) (fun _ _ _ h => h) (Or.inl ⟨by rfl, ?_⟩) (by assumption) ?_
  rotate_left
  · (intro wx hSw; (try dsimp only at hSw); skip; go_simp; (try with_reducible rfl))
  (try simp only [Act.put, List.getElem_toArray, List.getElem_cons_zero, List.getElem_cons_succ, List.setIfInBounds_toArray, List.set_cons_zero, List.set_cons_succ])
  refine wpAnyH_take (i := 20) (oi := _) (v := ?_) rfl (by kernel_rfl) (by kernel_rfl) (by kernel_rfl) (fun _ _ _ h => h) (Or.inl ⟨by rfl, ?_⟩) (by assumption) ?_
  rotate_left
  · (intro wx hSw; (try dsimp only at hSw); skip; go_simp; (try with_reducible rfl))
  (try simp only [Act.put, List.getElem_toArray, List.getElem_cons_zero, List.getElem_cons_succ, List.setIfInBounds_toArray, List.set_cons_zero, List.set_cons_succ])
  refine wpAnyH_take (i := 21) (oi := _) (v := ?_) rfl (by kernel_rfl) (by kernel_rfl) (by kernel_rfl) (fun _ _ _ h => h) (Or.inl ⟨by rfl, ?_⟩) (by assumption) ?_
  rotate_left
  · (intro wx hSw; (try dsimp only at hSw); skip; go_simp; (try with_reducible rfl))
  (try simp only [Act.put, List.getElem_toArray, List.getElem_cons_zero, List.getElem_cons_succ, List.setIfInBounds_toArray, List.set_cons_zero, List.set_cons_succ])
  refine wpAnyH_take (i := 22) (oi := _) (v := ?_) rfl (by kernel_rfl) (by kernel_rfl) (by kernel_rfl) (fun _ _ _ h => h) (Or.inl ⟨by rfl, ?_⟩) (by assumption) ?_
  rotate_left
  · (intro wx hSw; (try dsimp only at hSw); have hy := hSw.1.2.2.cell 0; simp only [List.getElem?_toArray, List.getElem?_cons_zero, List.getElem?_cons_succ] at hy; go_simp; (try with_reducible rfl))
  (try simp only [Act.put, List.getElem_toArray, List.getElem_cons_zero, List.getElem_cons_succ, List.setIfInBounds_toArray, List.set_cons_zero, List.set_cons_succ])
  refine wpAnyH_take (i := 23) (oi := _) (v := ?_) rfl (by kernel_rfl) (by kernel_rfl) (by kernel_rfl) (fun _ _ _ h => h) (Or.inl ⟨by rfl, ?_⟩) (by assumption) ?_
  rotate_left
  · (intro wx hSw; (try dsimp only at hSw); skip; go_simp; (try with_reducible rfl))
  (try simp only [Act.put, List.getElem_toArray, List.getElem_cons_zero, List.getElem_cons_succ, List.setIfInBounds_toArray, List.set_cons_zero, List.set_cons_succ])
  refine wpAnyH_take (i := 24) (oi := _) (v := ?_) rfl (by kernel_rfl) (by kernel_rfl) (by kernel_rfl) (fun _ _ _ h => h) (Or.inl ⟨by rfl, ?_⟩) (by assumption) ?_
  rotate_left
  · (intro wx hSw; (try dsimp only at hSw); skip; go_simp; (try with_reducible rfl))
  (try simp only [Act.put, List.getElem_toArray, List.getElem_cons_zero, List.getElem_cons_succ, List.setIfInBounds_toArray, List.set_cons_zero, List.set_cons_succ])
  refine wpAnyH_take (i := 25) (oi := _) (v := ?_) rfl (by kernel_rfl) (by kernel_rfl) (by kernel_rfl) (fun _ _ _ h => h) (Or.inl ⟨by rfl, ?_⟩) (by assumption) ?_
  rotate_left
  · (intro wx hSw; (try dsimp only at hSw); have hy := hSw.1.2.2.cell 1; simp only [List.getElem?_toArray, List.getElem?_cons_zero, List.getElem?_cons_succ] at hy; go_simp; (try with_reducible rfl))
  (try simp only [Act.put, List.getElem_toArray, List.getElem_cons_zero, List.getElem_cons_succ, List.setIfInBounds_toArray, List.set_cons_zero, List.set_cons_succ])
  refine wpAnyH_take (i := 26) (oi := _) (v := ?_) rfl (by kernel_rfl) (by kernel_rfl) (by kernel_rfl) (fun _ _ _ h => h) (Or.inl ⟨by rfl, ?_⟩) (by assumption) ?_
  rotate_left
  · (intro wx hSw; (try dsimp only at hSw); skip; go_simp; (try with_reducible rfl))
  (try simp only [Act.put, List.getElem_toArray, List.getElem_cons_zero, List.getElem_cons_succ, List.setIfInBounds_toArray, List.set_cons_zero, List.set_cons_succ])
  refine wpAnyH_take (i := 27) (oi := _) (v := ?_) rfl (by kernel_rfl) (by kernel_rfl) (by kernel_rfl) (fun _ _ _ h => h) (Or.inl ⟨by rfl, ?_⟩) (by assumption) ?_
  rotate_left
  · (intro wx hSw; (try dsimp only at hSw); skip; go_simp; (try with_reducible rfl))
  (try simp only [Act.put, List.getElem_toArray, List.getElem_cons_zero, List.getElem_cons_succ, List.setIfInBounds_toArray, List.set_cons_zero, List.set_cons_succ])
  refine wpAnyH_take (i := 28) (oi := _) (v := .bool true) rfl (by kernel_rfl) (by kernel_rfl) (by kernel_rfl) (fun _ _ _ h => h) (Or.inl ⟨by rfl, ?_⟩) (by assumption) ?_
  · (intro wx hSw; (try dsimp only at hSw); skip; go_simp; (try omega); (try simp [*]); (try omega); (try decide))
  (try simp only [Act.put, List.getElem_toArray, List.getElem_cons_zero, List.getElem_cons_succ, List.setIfInBounds_toArray, List.set_cons_zero, List.set_cons_succ])
  refine wpAnyH_take (i := 29) (oi := _) (v := .bool true) rfl (by kernel_rfl) (by kernel_rfl) (by kernel_rfl) (fun _ _ _ h => h) (Or.inl ⟨by rfl, ?_⟩) (by assumption) ?_
  · (intro wx hSw; (try dsimp only at hSw); skip; go_simp; (try omega); (try simp [*]); (try omega); (try decide))
  (try simp only [Act.put, List.getElem_toArray, List.getElem_cons_zero, List.getElem_cons_succ, List.setIfInBounds_toArray, List.set_cons_zero, List.set_cons_succ])
  refine wpAnyH_take (i := 30) (oi := _) (v := .bool true) rfl (by kernel_rfl) (by kernel_rfl) (by kernel_rfl) (fun _ _ _ h => h) (Or.inl ⟨by rfl, ?_⟩) (by assumption) ?_
  · (intro wx hSw; (try dsimp only at hSw); skip; go_simp; (try omega); (try simp [*]); (try omega); (try decide))
  (try simp only [Act.put, List.getElem_toArray, List.getElem_cons_zero, List.getElem_cons_succ, List.setIfInBounds_toArray, List.set_cons_zero, List.set_cons_succ])
  refine wpAnyH_take (i := 31) (oi := _) (v := ?_) rfl (by kernel_rfl) (by kernel_rfl) (by kernel_rfl) (fun _ _ _ h => h) (Or.inl ⟨by rfl, ?_⟩) (by assumption) ?_
  rotate_left
  · (intro wx hSw; (try dsimp only at hSw); skip; go_simp; (try with_reducible rfl))
  (try simp only [Act.put, List.getElem_toArray, List.getElem_cons_zero, List.getElem_cons_succ, List.setIfInBounds_toArray, List.set_cons_zero, List.set_cons_succ])
  refine wpAnyH_take (i := 32) (oi := _) (v := ?_) rfl (by kernel_rfl) (by kernel_rfl) (by kernel_rfl) (fun _ _ _ h => h) (Or.inl ⟨by rfl, ?_⟩) (by assumption) ?_
  rotate_left
  · (intro wx hSw; (try dsimp only at hSw); have hy := hSw.1.2.2.cell 3; simp only [List.getElem?_toArray, List.getElem?_cons_zero, List.getElem?_cons_succ] at hy; go_simp; (try with_reducible rfl))
  (try simp only [Act.put, List.getElem_toArray, List.getElem_cons_zero, List.getElem_cons_succ, List.setIfInBounds_toArray, List.set_cons_zero, List.set_cons_succ])
  refine wpAnyH_take (i := 33) (oi := _) (v := .bool true) rfl (by kernel_rfl) (by kernel_rfl) (by kernel_rfl) (fun _ _ _ h => h) (Or.inl ⟨by rfl, ?_⟩) (by assumption) ?_
  · (intro wx hSw; (try dsimp only at hSw); skip; go_simp; (try omega); (try simp [*]); (try omega); (try decide))
  (try simp only [Act.put, List.getElem_toArray, List.getElem_cons_zero, List.getElem_cons_succ, List.setIfInBounds_toArray, List.set_cons_zero, List.set_cons_succ])
  refine wpAnyH_take (i := 34) (oi := _) (v := .bool true) rfl (by kernel_rfl) (by kernel_rfl) (by kernel_rfl) (fun _ _ _ h => h) (Or.inl ⟨by rfl, ?_⟩) (by assumption) ?_
  · (intro wx hSw; (try dsimp only at hSw); skip; go_simp; (try omega); (try simp [*]); (try omega); (try decide))
  (try simp only [Act.put, List.getElem_toArray, List.getElem_cons_zero, List.getElem_cons_succ, List.setIfInBounds_toArray, List.set_cons_zero, List.set_cons_succ])
  refine wpAnyH_take (i := 35) (oi := _) (v := .bool true) rfl (by kernel_rfl) (by kernel_rfl) (by kernel_rfl) (fun _ _ _ h => h) (Or.inl ⟨by rfl, ?_⟩) (by assumption) ?_
  · (intro wx hSw; (try dsimp only at hSw); skip; go_simp; (try omega); (try simp [*]); (try omega); (try decide))
  (try simp only [Act.put, List.getElem_toArray, List.getElem_cons_zero, List.getElem_cons_succ, List.setIfInBounds_toArray, List.set_cons_zero, List.set_cons_succ])
  refine wpAnyH_take (i := 36) (oi := _) (v := ?_) rfl (by kernel_rfl) (by kernel_rfl) (by kernel_rfl) (fun _ _ _ h => h) (Or.inl ⟨by rfl, ?_⟩) (by assumption) ?_
  rotate_left
  · (intro wx hSw; (try dsimp only at hSw); skip; go_simp; (try with_reducible rfl))
  (try simp only [Act.put, List.getElem_toArray, List.getElem_cons_zero, List.getElem_cons_succ, List.setIfInBounds_toArray, List.set_cons_zero, List.set_cons_succ])
  refine wpAnyH_take (i := 37) (oi := _) (v := ?_) rfl (by kernel_rfl) (by kernel_rfl) (by kernel_rfl) (fun _ _ _ h => h) (Or.inl ⟨by rfl, ?_⟩) (by assumption) ?_
  rotate_left
  · (intro wx hSw; (try dsimp only at hSw); have hy := hSw.1.2.2.cell 2; simp only [List.getElem?_toArray, List.getElem?_cons_zero, List.getElem?_cons_succ] at hy; go_simp; (try with_reducible rfl))
  (try simp only [Act.put, List.getElem_toArray, List.getElem_cons_zero, List.getElem_cons_succ, List.setIfInBounds_toArray, List.set_cons_zero, List.set_cons_succ])
  refine wpAnyH_take (i := 38) (oi := _) (v := ?_) rfl (by kernel_rfl) (by kernel_rfl) (by kernel_rfl) (fun _ _ _ h => h) (Or.inl ⟨by rfl, ?_⟩) (by assumption) ?_
  rotate_left
  · (intro wx hSw; (try dsimp only at hSw); skip; go_simp; (try with_reducible rfl))
  (try simp only [Act.put, List.getElem_toArray, List.getElem_cons_zero, List.getElem_cons_succ, List.setIfInBounds_toArray, List.set_cons_zero, List.set_cons_succ])
  refine wpAnyH_take (i := 39) (oi := _) (v := .bool true) rfl (by kernel_rfl) (by kernel_rfl) (by kernel_rfl) (fun _ _ _ h => h) (Or.inl ⟨by rfl, ?_⟩) (by assumption) ?_
  · (intro wx hSw; (try dsimp only at hSw); skip; go_simp; (try omega); (try simp [*]); (try omega); (try decide))
  (try simp only [Act.put, List.getElem_toArray, List.getElem_cons_zero, List.getElem_cons_succ, List.setIfInBounds_toArray, List.set_cons_zero, List.set_cons_succ])
  refine wpAnyH_take (i := 40) (oi := _) (v := .bool true) rfl (by kernel_rfl) (by kernel_rfl) (by kernel_rfl) (fun _ _ _ h => h) (Or.inl ⟨by rfl, ?_⟩) (by assumption) ?_
  · (intro wx hSw; (try dsimp only at hSw); skip; go_simp; (try omega); (try simp [*]); (try omega); (try decide))
  (try simp only [Act.put, List.getElem_toArray, List.getElem_cons_zero, List.getElem_cons_succ, List.setIfInBounds_toArray, List.set_cons_zero, List.set_cons_succ])
  refine wpAnyH_take (i := 41) (oi := _) (v := undef) rfl (by kernel_rfl) (by kernel_rfl) (by kernel_rfl) (fun _ _ _ h => h) (Or.inr ⟨by rfl, rfl⟩) (by assumption) ?_
  (try simp only [Act.put, List.getElem_toArray, List.getElem_cons_zero, List.getElem_cons_succ, List.setIfInBounds_toArray, List.set_cons_zero, List.set_cons_succ])
  refine wpAnyH_take (i := 42) (oi := _) (v := undef) rfl (by kernel_rfl) (by kernel_rfl) (by kernel_rfl) (fun _ _ _ h => h) (Or.inr ⟨by rfl, rfl⟩) (by assumption) ?_
  (try simp only [Act.put, List.getElem_toArray, List.getElem_cons_zero, List.getElem_cons_succ, List.setIfInBounds_toArray, List.set_cons_zero, List.set_cons_succ])
  refine wpAnyH_take (i := 43) (oi := _) (v := .bool true) rfl (by kernel_rfl) (by kernel_rfl) (by kernel_rfl) (fun _ _ _ h => h) (Or.inl ⟨by rfl, ?_⟩) (by assumption) ?_
  · (intro wx hSw; (try dsimp only at hSw); skip; go_simp; (try omega); (try simp [*]); (try omega); (try decide))
  (try simp only [Act.put, List.getElem_toArray, List.getElem_cons_zero, List.getElem_cons_succ, List.setIfInBounds_toArray, List.set_cons_zero, List.set_cons_succ])
  refine wpAnyH_take (i := 44) (oi := _) (v := .bool true) rfl (by kernel_rfl) (by kernel_rfl) (by kernel_rfl) (fun _ _ _ h => h) (Or.inl ⟨by rfl, ?_⟩) (by assumption) ?_
  · (intro wx hSw; (try dsimp only at hSw); skip; go_simp; (try omega); (try simp [*]); (try omega); (try decide))
  (try simp only [Act.put, List.getElem_toArray, List.getElem_cons_zero, List.getElem_cons_succ, List.setIfInBounds_toArray, List.set_cons_zero, List.set_cons_succ])
  refine wpAnyH_take (i := 45) (oi := _) (v := .bool true) rfl (by kernel_rfl) (by kernel_rfl) (by kernel_rfl) (fun _ _ _ h => h) (Or.inl ⟨by rfl, ?_⟩) (by assumption) ?_
  · (intro wx hSw; (try dsimp only at hSw); skip; go_simp; (try omega); (try simp [*]); (try omega); (try decide))
  (try simp only [Act.put, List.getElem_toArray, List.getElem_cons_zero, List.getElem_cons_succ, List.setIfInBounds_toArray, List.set_cons_zero, List.set_cons_succ])
  refine wpAnyH_take (i := 46) (oi := _) (v := .bool true) rfl (by kernel_rfl) (by kernel_rfl) (by kernel_rfl) (fun _ _ _ h => h) (Or.inl ⟨by rfl, ?_⟩) (by assumption) ?_
  · (intro wx hSw; (try dsimp only at hSw); skip; go_simp; (try omega); (try simp [*]); (try omega); (try decide))
  (try simp only [Act.put, List.getElem_toArray, List.getElem_cons_zero, List.getElem_cons_succ, List.setIfInBounds_toArray, List.set_cons_zero, List.set_cons_succ])
  refine wpAnyH_ready (rs := [47]) (by kernel_rfl) (by simp) ?_
  refine AllReadyH.cons (o := _) rfl (fun K hK => ?_) AllReadyH.nil
  go_simp
  go_at_call 14
  refine (awake_any7 _).mono ?_
  rintro e w10 ⟨rfl, q10⟩
  refine hK.out _ _ ⟨⟨hHeld.1.1.on q10, hHeld.1.2.1.on q10, hHeld.1.2.2.on q10⟩, hHeld.2.trans q10⟩ (fun hHeld => ?_)
  clear hK K
  (try simp only [Act.put, List.getElem_toArray, List.getElem_cons_zero, List.getElem_cons_succ, List.setIfInBounds_toArray, List.set_cons_zero, List.set_cons_succ])
  refine wpAnyH_take (i := 48) (oi := _) (v := .bool true) rfl (by kernel_rfl) (by kernel_rfl) (by kernel_rfl) (fun _ _ _ h => h) (Or.inl ⟨by rfl, ?_⟩) (by assumption) ?_
  · (intro wx hSw; (try dsimp only at hSw); skip; go_simp; (try omega); (try simp [*]); (try omega); (try decide))
  (try simp only [Act.put, List.getElem_toArray, List.getElem_cons_zero, List.getElem_cons_succ, List.setIfInBounds_toArray, List.set_cons_zero, List.set_cons_succ])
  refine wpAnyH_take (i := 49) (oi := _) (v := .bool true) rfl (by kernel_rfl) (by kernel_rfl) (by kernel_rfl) (fun _ _ _ h => h) (Or.inl ⟨by rfl, ?_⟩) (by assumption) ?_
  · (intro wx hSw; (try dsimp only at hSw); skip; go_simp; (try omega); (try simp [*]); (try omega); (try decide))
  (try simp only [Act.put, List.getElem_toArray, List.getElem_cons_zero, List.getElem_cons_succ, List.setIfInBounds_toArray, List.set_cons_zero, List.set_cons_succ])
  refine wpAnyH_done (by kernel_rfl) ?_ _
  have qe := hHeld.2
  go_wp2
  go_ret
  exact ⟨rfl, qA.trans (qz.trans qe)⟩
set_option maxHeartbeats 8000000 in
set_option maxRecDepth 100000 in
theorem w_gt_k_false (u : Value) (l : List Ent) (pp dd key : ByteArray) (id : Nat) (m : Int) (x y : Nat) (hx : x ≤ 255) (hy : y ≤ 255) (hxy : y < x) (P1 P2 : Pg) (L : List Ent) (k d a : ByteArray) (w : World) (t0 : Ents w w.heap.size u l) (z0 : l.length ≤ maxLen) (sp : pp.size ≤ maxLen) (sd : dd.size ≤ maxLen) (sk : key.size ≤ maxLen) (hL1 : L.length ≤ 1000)
    (CU : Hid (∀ b, Q w b → Calls Try.prog 10 #[.agg #[u, .string pp, .string dd, .string key, .int .u64 (id : Nat), .int .i64 m]] b fun e w' => ∃ u', e = .returned (.agg #[u', .string k, .string d, .string a, .int .u64 (id : Nat), .int .i64 m]) ∧ Ents w' w'.heap.size u' L ∧ Q b w'))
    (K1 : Hid (∀ b v, Ents b b.heap.size v L → Calls Try.prog 11 #[v, .string k, .string d, .string a, .int .i64 (y : Nat)] b (KeysR b P1 0)))
    (K2 : Hid (∀ b v, Ents b b.heap.size v L → Calls Try.prog 11 #[v, .string k, .string d, .string a, .int .i64 (x : Nat)] b (KeysR b P2 0)))
    (K3 : Hid (∀ b v, Ents b b.heap.size v L → Calls Try.prog 11 #[v, .string k, .string d, .string a, .int .i64 0] b (KeysR b (⟨[], [], true, ⟨#[]⟩⟩ : Pg) 0)))
    (hm1 : True) (hm2 : P2.more = false) (hkp : 0 < P2.keys.length + P2.grps.length) (s1 : P1.keys.length ≤ P2.keys.length) (s2 : P1.grps.length ≤ P2.grps.length) (s3 : P2.keys.take P1.keys.length = P1.keys) (s4 : P2.grps.take P1.grps.length = P1.grps) (hk1 : P2.keys.length ≤ 1000) (hk2 : P2.grps.length ≤ 1000) :
    Calls Try.prog 9 #[.agg #[u, .string pp, .string dd, .string key, .int .u64 (id : Nat), .int .i64 m], .int .u8 (x : Nat), .int .u8 (y : Nat)] w fun e w' => e = .returned (.bool true) ∧ Q w w' := by
  have hx2 : (y : Int) ≤ 255 := by omega
  have hy2 : (x : Int) ≤ 255 := by omega
  have z1 : (y : Int) < (x : Int) := by omega
  have z2 : ¬ (x : Int) < (y : Int) := by omega
  have z3 : ¬ (x : Int) ≤ (y : Int) := by omega
  have z4 : ¬ (y : Int) = (x : Int) := by omega
  have z5 : ¬ (x : Int) = (y : Int) := by omega
  unfold KeysR at K1 K2 K3
  simp only [hm2, List.length_nil] at K1 K2 K3
  have qb : Q w (w.alloc (.cells #[u, .string pp, .string dd, .string key, .int .u64 (id : Nat), .int .i64 m] 25)) := (Q.refl w).alloc _
  have bx := Bx.new w 25 #[u, .string pp, .string dd, .string key, .int .u64 (id : Nat), .int .i64 m]
  obtain ⟨A0, c0, rfl⟩ := t0.form
  go_enter Try.func9, Try.ntmps9
  go_wp2_with fail
  refine (CU.out _ qb).mono ?_
  rintro e w1 ⟨u1, rfl, e1, q1⟩
  obtain ⟨A1, c1, rfl⟩ := e1.form
  have bq := bx.on q1
  have x0 := bq.cell 0
  have x1 := bq.cell 1
  have x2 := bq.cell 2
  have x3 := bq.cell 3
  have x4 := bq.cell 4
  have x5 := bq.cell 5
  have f0 := bq.frozen 0
  have f1 := bq.frozen 1
  have f2 := bq.frozen 2
  have f3 := bq.frozen 3
  have f4 := bq.frozen 4
  have f5 := bq.frozen 5
  simp only [List.getElem?_toArray, List.getElem?_cons_zero, List.getElem?_cons_succ] at x0 x1 x2 x3 x4 x5
  obtain ⟨wA, hwA⟩ : ∃ wA, wA = (((((w1.setCell ⟨w.heap.size, 0, none⟩ (.slice A1 L.length c1)).setCell ⟨w.heap.size, 1, none⟩ (.string k)).setCell ⟨w.heap.size, 2, none⟩ (.string d)).setCell ⟨w.heap.size, 3, none⟩ (.string a)).setCell ⟨w.heap.size, 4, none⟩ (.int .u64 (id : Nat))).setCell ⟨w.heap.size, 5, none⟩ (.int .i64 m) := ⟨_, rfl⟩
  have bA : Bx wA w.heap.size 25 #[.slice A1 L.length c1, .string k, .string d, .string a, .int .u64 (id : Nat), .int .i64 m] := by
    rw [hwA]; exact (((((bq.set 0 _).set 1 _).set 2 _).set 3 _).set 4 _).set 5 _
  have qA : Q w wA := by rw [hwA]; exact Q.set (Q.set (Q.set (Q.set (Q.set (Q.set (qb.trans q1) (Nat.le_refl _) _) (Nat.le_refl _) _) (Nat.le_refl _) _) (Nat.le_refl _) _) (Nat.le_refl _) _) (Nat.le_refl _) _
  have t1 : Hid (Ents wA wA.heap.size (.slice A1 L.length c1) L) := Lib.hid (e1.boxed (B := w.heap.size) (t := 25) bq (fun j hj => by rw [hwA]; exact (heap_set _ _ _ _ hj).trans ((heap_set _ _ _ _ hj).trans ((heap_set _ _ _ _ hj).trans ((heap_set _ _ _ _ hj).trans ((heap_set _ _ _ _ hj).trans (heap_set _ _ _ _ hj)))))) (by rw [hwA]; simp))
  have HWA := Lib.hid hwA
  clear bx bq e1 q1 qb t0 hwA
  go_wp2_with fail
  rw [← HWA.out]
  clear HWA x0 x1 x2 x3 x4 x5 f0 f1 f2 f3 f4 f5
  refine (K1.out _ _ t1.out).mono ?_
  rintro e w2 ⟨A1, c1, B1, d1, r1, rfl, e2, g2, q2⟩
  have T1 := Lib.hid e2
  have G1 := Lib.hid g2
  clear e2 g2
  have n1 := Bx.new w2 29 #[.slice A1 P1.keys.length c1, .slice B1 P1.grps.length d1, .bool P1.more, .string P1.last]
  have m2 := (Q.refl w2).alloc (.cells #[.slice A1 P1.keys.length c1, .slice B1 P1.grps.length d1, .bool P1.more, .string P1.last] 29)
  have q2' := q2.trans m2
  have bKx := bA.on q2'
  have x0 := bKx.cell 0
  have x1 := bKx.cell 1
  have x2 := bKx.cell 2
  have x3 := bKx.cell 3
  have x5 := bKx.cell 5
  simp only [List.getElem?_toArray, List.getElem?_cons_zero, List.getElem?_cons_succ] at x0 x1 x2 x3 x5
  obtain ⟨w3, hw3⟩ : ∃ w3, w3 = w2.alloc (.cells #[.slice A1 P1.keys.length c1, .slice B1 P1.grps.length d1, .bool P1.more, .string P1.last] 29) := ⟨_, rfl⟩
  rw [← hw3] at n1 m2 q2'
  have HW3 := Lib.hid hw3
  clear hw3 bKx
  go_wp2_with fail
  rw [← HW3.out]
  refine (K2.out _ _ (t1.out.on q2')).mono ?_
  rintro e w4 ⟨A2, c2, B2, d2, r2, rfl, e2, g2, q4⟩
  have T2 := Lib.hid e2
  have G2 := Lib.hid g2
  clear e2 g2 x0 x1 x2 x3 x5
  have n2 := Bx.new w4 29 #[.slice A2 P2.keys.length c2, .slice B2 P2.grps.length d2, .bool false, .string P2.last]
  have m4 := (Q.refl w4).alloc (.cells #[.slice A2 P2.keys.length c2, .slice B2 P2.grps.length d2, .bool false, .string P2.last] 29)
  have q4' := (q2'.trans q4).trans m4
  have bKx := bA.on q4'
  have x0 := bKx.cell 0
  have x1 := bKx.cell 1
  have x2 := bKx.cell 2
  have x3 := bKx.cell 3
  have x5 := bKx.cell 5
  simp only [List.getElem?_toArray, List.getElem?_cons_zero, List.getElem?_cons_succ] at x0 x1 x2 x3 x5
  obtain ⟨w5, hw5⟩ : ∃ w5, w5 = w4.alloc (.cells #[.slice A2 P2.keys.length c2, .slice B2 P2.grps.length d2, .bool false, .string P2.last] 29) := ⟨_, rfl⟩
  rw [← hw5] at n2 m4 q4'
  have HW5 := Lib.hid hw5
  clear hw5 bKx
  go_wp2_with fail
  rw [← HW5.out]
  refine (K3.out _ _ (t1.out.on q4')).mono ?_
  rintro e w6 ⟨A3, c3, B3, d3, r3, rfl, e2, g2, q6⟩
  clear e2 g2 x0 x1 x2 x3 x5
  have b3 := Bx.new w6 29 #[.slice A3 0 c3, .slice B3 0 d3, .bool true, .string ⟨#[]⟩]
  have m6 := (Q.refl w6).alloc (.cells #[.slice A3 0 c3, .slice B3 0 d3, .bool true, .string ⟨#[]⟩] 29)
  have b2 := (n2.on q6).on m6
  have b1 := (((n1.on q4).on m4).on q6).on m6
  have qz := (q4'.trans q6).trans m6
  have T1z := Lib.hid (T1.out.on ((m2.trans q4).trans ((m4.trans q6).trans m6)))
  have G1z := Lib.hid (G1.out.on ((m2.trans q4).trans ((m4.trans q6).trans m6)))
  have T2z := Lib.hid (T2.out.on ((m4.trans q6).trans m6))
  have G2z := Lib.hid (G2.out.on ((m4.trans q6).trans m6))
  clear T1 G1 T2 G2
  obtain ⟨wz, hwz⟩ : ∃ wz, wz = w6.alloc (.cells #[.slice A3 0 c3, .slice B3 0 d3, .bool true, .string ⟨#[]⟩] 29) := ⟨_, rfl⟩
  have X10 := b1.cell 0
  have X11 := b1.cell 1
  have X12 := b1.cell 2
  have X20 := b2.cell 0
  have X21 := b2.cell 1
  have X22 := b2.cell 2
  simp only [List.getElem?_toArray, List.getElem?_cons_zero, List.getElem?_cons_succ] at X10 X11 X12 X20 X21 X22
  rw [← hwz] at b1 b2 b3 qz T1z G1z T2z G2z
  have HWZ := Lib.hid hwz
  have SK := same_yes P1.keys (by omega)
  have SG := same_yes P1.grps (by omega)
  have T2c := Lib.hid (by have := T2z.out.take s1; rwa [s3] at this)
  have G2c := Lib.hid (by have := G2z.out.take s2; rwa [s4] at this)
  have u1' : ¬ (P2.keys.length : Int) < (P1.keys.length : Int) := by omega
  have u2' : ¬ (P2.grps.length : Int) < (P1.grps.length : Int) := by omega
  have u3' : (P1.keys.length : Int) ≤ (c2 : Int) := by omega
  have u4' : (P1.grps.length : Int) ≤ (d2 : Int) := by omega
  have kk : (0 : Int) < (P2.keys.length : Int) + (P2.grps.length : Int) := by omega
  clear hwz s3 s4 T2z G2z hkp hm1 hm2
  go_wp2_with fail
  rw [← HWZ.out]
  clear X10 X11 X12 X20 X21 X22
  refine wp_region_held_drew (S := fun x => (Bx x w2.heap.size 29 #[.slice A1 P1.keys.length c1, .slice B1 P1.grps.length d1, .bool P1.more, .string P1.last] ∧ Bx x w4.heap.size 29 #[.slice A2 P2.keys.length c2, .slice B2 P2.grps.length d2, .bool false, .string P2.last] ∧ Bx x w6.heap.size 29 #[.slice A3 0 c3, .slice B3 0 d3, .bool true, .string ⟨#[]⟩]) ∧ Q wz x) (by kernel_rfl) ⟨⟨b1.on (Q.refl _).drew, b2.on (Q.refl _).drew, b3.on (Q.refl _).drew⟩, (Q.refl _).drew⟩ (fun hHeld => ?_)
  refine wpAnyH_take (i := 0) (oi := _) (v := ?_) rfl (by kernel_rfl) (by kernel_rfl) (by kernel_rfl) (fun _ _ _ h => h) (Or.inl ⟨by rfl, ?_⟩) (by assumption) ?_
  rotate_left
  · (intro wx hSw; (try dsimp only at hSw); skip; go_simp; (try with_reducible rfl))
  (try simp only [Act.put, List.getElem_toArray, List.getElem_cons_zero, List.getElem_cons_succ, List.setIfInBounds_toArray, List.set_cons_zero, List.set_cons_succ])
  refine wpAnyH_take (i := 1) (oi := _) (v := ?_) rfl (by kernel_rfl) (by kernel_rfl) (by kernel_rfl) (fun _ _ _ h => h) (Or.inl ⟨by rfl, ?_⟩) (by assumption) ?_
  rotate_left
  · (intro wx hSw; (try dsimp only at hSw); have hy := hSw.1.1.cell 0; simp only [List.getElem?_toArray, List.getElem?_cons_zero, List.getElem?_cons_succ] at hy; go_simp; (try with_reducible rfl))
  (try simp only [Act.put, List.getElem_toArray, List.getElem_cons_zero, List.getElem_cons_succ, List.setIfInBounds_toArray, List.set_cons_zero, List.set_cons_succ])
  refine wpAnyH_take (i := 2) (oi := _) (v := ?_) rfl (by kernel_rfl) (by kernel_rfl) (by kernel_rfl) (fun _ _ _ h => h) (Or.inl ⟨by rfl, ?_⟩) (by assumption) ?_
  rotate_left
  · (intro wx hSw; (try dsimp only at hSw); skip; go_simp; (try with_reducible rfl))
  (try simp only [Act.put, List.getElem_toArray, List.getElem_cons_zero, List.getElem_cons_succ, List.setIfInBounds_toArray, List.set_cons_zero, List.set_cons_succ])
  refine wpAnyH_take (i := 3) (oi := _) (v := ?_) rfl (by kernel_rfl) (by kernel_rfl) (by kernel_rfl) (fun _ _ _ h => h) (Or.inl ⟨by rfl, ?_⟩) (by assumption) ?_
  rotate_left
  · (intro wx hSw; (try dsimp only at hSw); have hy := hSw.1.2.1.cell 0; simp only [List.getElem?_toArray, List.getElem?_cons_zero, List.getElem?_cons_succ] at hy; go_simp; (try with_reducible rfl))
  (try simp only [Act.put, List.getElem_toArray, List.getElem_cons_zero, List.getElem_cons_succ, List.setIfInBounds_toArray, List.set_cons_zero, List.set_cons_succ])
  refine wpAnyH_take (i := 4) (oi := _) (v := ?_) rfl (by kernel_rfl) (by kernel_rfl) (by kernel_rfl) (fun _ _ _ h => h) (Or.inl ⟨by rfl, ?_⟩) (by assumption) ?_
  rotate_left
  · (intro wx hSw; (try dsimp only at hSw); skip; go_simp; (try with_reducible rfl))
  (try simp only [Act.put, List.getElem_toArray, List.getElem_cons_zero, List.getElem_cons_succ, List.setIfInBounds_toArray, List.set_cons_zero, List.set_cons_succ])
  refine wpAnyH_take (i := 5) (oi := _) (v := ?_) rfl (by kernel_rfl) (by kernel_rfl) (by kernel_rfl) (fun _ _ _ h => h) (Or.inl ⟨by rfl, ?_⟩) (by assumption) ?_
  rotate_left
  · (intro wx hSw; (try dsimp only at hSw); have hy := hSw.1.1.cell 0; simp only [List.getElem?_toArray, List.getElem?_cons_zero, List.getElem?_cons_succ] at hy; go_simp; (try with_reducible rfl))
  (try simp only [Act.put, List.getElem_toArray, List.getElem_cons_zero, List.getElem_cons_succ, List.setIfInBounds_toArray, List.set_cons_zero, List.set_cons_succ])
  refine wpAnyH_take (i := 6) (oi := _) (v := ?_) rfl (by kernel_rfl) (by kernel_rfl) (by kernel_rfl) (fun _ _ _ h => h) (Or.inl ⟨by rfl, ?_⟩) (by assumption) ?_
  rotate_left
  · (intro wx hSw; (try dsimp only at hSw); skip; go_simp; (try with_reducible rfl))
  (try simp only [Act.put, List.getElem_toArray, List.getElem_cons_zero, List.getElem_cons_succ, List.setIfInBounds_toArray, List.set_cons_zero, List.set_cons_succ])
  refine wpAnyH_take (i := 7) (oi := _) (v := ?_) rfl (by kernel_rfl) (by kernel_rfl) (by kernel_rfl) (fun _ _ _ h => h) (Or.inl ⟨by rfl, ?_⟩) (by assumption) ?_
  rotate_left
  · (intro wx hSw; (try dsimp only at hSw); skip; go_simp; (try with_reducible rfl))
  (try simp only [Act.put, List.getElem_toArray, List.getElem_cons_zero, List.getElem_cons_succ, List.setIfInBounds_toArray, List.set_cons_zero, List.set_cons_succ])
  refine wpAnyH_ready (rs := [8]) (by kernel_rfl) (by simp) ?_
  refine AllReadyH.cons (o := _) rfl (fun K hK => ?_) AllReadyH.nil
  go_simp
  go_at_call 15
  refine (SK.out _ _ _ (T1z.out.on hHeld.2) (T2c.out.on hHeld.2)).mono ?_
  rintro e w8 ⟨rfl, q8⟩
  refine hK.out _ _ ⟨⟨hHeld.1.1.on q8, hHeld.1.2.1.on q8, hHeld.1.2.2.on q8⟩, hHeld.2.trans q8⟩ (fun hHeld => ?_)
  clear hK K
  (try simp only [Act.put, List.getElem_toArray, List.getElem_cons_zero, List.getElem_cons_succ, List.setIfInBounds_toArray, List.set_cons_zero, List.set_cons_succ])
  refine wpAnyH_take (i := 9) (oi := _) (v := ?_) rfl (by kernel_rfl) (by kernel_rfl) (by kernel_rfl) (fun _ _ _ h => h) (Or.inl ⟨by rfl, ?_⟩) (by assumption) ?_
  rotate_left
  · (intro wx hSw; (try dsimp only at hSw); skip; go_simp; (try with_reducible rfl))
  (try simp only [Act.put, List.getElem_toArray, List.getElem_cons_zero, List.getElem_cons_succ, List.setIfInBounds_toArray, List.set_cons_zero, List.set_cons_succ])
  refine wpAnyH_take (i := 10) (oi := _) (v := ?_) rfl (by kernel_rfl) (by kernel_rfl) (by kernel_rfl) (fun _ _ _ h => h) (Or.inl ⟨by rfl, ?_⟩) (by assumption) ?_
  rotate_left
  · (intro wx hSw; (try dsimp only at hSw); skip; go_simp; (try with_reducible rfl))
  (try simp only [Act.put, List.getElem_toArray, List.getElem_cons_zero, List.getElem_cons_succ, List.setIfInBounds_toArray, List.set_cons_zero, List.set_cons_succ])
  refine wpAnyH_take (i := 11) (oi := _) (v := ?_) rfl (by kernel_rfl) (by kernel_rfl) (by kernel_rfl) (fun _ _ _ h => h) (Or.inl ⟨by rfl, ?_⟩) (by assumption) ?_
  rotate_left
  · (intro wx hSw; (try dsimp only at hSw); have hy := hSw.1.1.cell 1; simp only [List.getElem?_toArray, List.getElem?_cons_zero, List.getElem?_cons_succ] at hy; go_simp; (try with_reducible rfl))
  (try simp only [Act.put, List.getElem_toArray, List.getElem_cons_zero, List.getElem_cons_succ, List.setIfInBounds_toArray, List.set_cons_zero, List.set_cons_succ])
  refine wpAnyH_take (i := 12) (oi := _) (v := ?_) rfl (by kernel_rfl) (by kernel_rfl) (by kernel_rfl) (fun _ _ _ h => h) (Or.inl ⟨by rfl, ?_⟩) (by assumption) ?_
  rotate_left
  · (intro wx hSw; (try dsimp only at hSw); skip; go_simp; (try with_reducible rfl))
  (try simp only [Act.put, List.getElem_toArray, List.getElem_cons_zero, List.getElem_cons_succ, List.setIfInBounds_toArray, List.set_cons_zero, List.set_cons_succ])
  refine wpAnyH_take (i := 13) (oi := _) (v := ?_) rfl (by kernel_rfl) (by kernel_rfl) (by kernel_rfl) (fun _ _ _ h => h) (Or.inl ⟨by rfl, ?_⟩) (by assumption) ?_
  rotate_left
  · (intro wx hSw; (try dsimp only at hSw); have hy := hSw.1.2.1.cell 1; simp only [List.getElem?_toArray, List.getElem?_cons_zero, List.getElem?_cons_succ] at hy; go_simp; (try with_reducible rfl))
  (try simp only [Act.put, List.getElem_toArray, List.getElem_cons_zero, List.getElem_cons_succ, List.setIfInBounds_toArray, List.set_cons_zero, List.set_cons_succ])
  refine wpAnyH_take (i := 14) (oi := _) (v := ?_) rfl (by kernel_rfl) (by kernel_rfl) (by kernel_rfl) (fun _ _ _ h => h) (Or.inl ⟨by rfl, ?_⟩) (by assumption) ?_
  rotate_left
  · (intro wx hSw; (try dsimp only at hSw); skip; go_simp; (try with_reducible rfl))
  (try simp only [Act.put, List.getElem_toArray, List.getElem_cons_zero, List.getElem_cons_succ, List.setIfInBounds_toArray, List.set_cons_zero, List.set_cons_succ])
  refine wpAnyH_take (i := 15) (oi := _) (v := ?_) rfl (by kernel_rfl) (by kernel_rfl) (by kernel_rfl) (fun _ _ _ h => h) (Or.inl ⟨by rfl, ?_⟩) (by assumption) ?_
  rotate_left
  · (intro wx hSw; (try dsimp only at hSw); have hy := hSw.1.1.cell 1; simp only [List.getElem?_toArray, List.getElem?_cons_zero, List.getElem?_cons_succ] at hy; go_simp; (try with_reducible rfl))
  (try simp only [Act.put, List.getElem_toArray, List.getElem_cons_zero, List.getElem_cons_succ, List.setIfInBounds_toArray, List.set_cons_zero, List.set_cons_succ])
  refine wpAnyH_take (i := 16) (oi := _) (v := ?_) rfl (by kernel_rfl) (by kernel_rfl) (by kernel_rfl) (fun _ _ _ h => h) (Or.inl ⟨by rfl, ?_⟩) (by assumption) ?_
  rotate_left
  · (intro wx hSw; (try dsimp only at hSw); skip; go_simp; (try with_reducible rfl))
  (try simp only [Act.put, List.getElem_toArray, List.getElem_cons_zero, List.getElem_cons_succ, List.setIfInBounds_toArray, List.set_cons_zero, List.set_cons_succ])
  refine wpAnyH_take (i := 17) (oi := _) (v := ?_) rfl (by kernel_rfl) (by kernel_rfl) (by kernel_rfl) (fun _ _ _ h => h) (Or.inl ⟨by rfl, ?_⟩) (by assumption) ?_
  rotate_left
  · (intro wx hSw; (try dsimp only at hSw); skip; go_simp; (try with_reducible rfl))
  (try simp only [Act.put, List.getElem_toArray, List.getElem_cons_zero, List.getElem_cons_succ, List.setIfInBounds_toArray, List.set_cons_zero, List.set_cons_succ])
  refine wpAnyH_ready (rs := [18]) (by kernel_rfl) (by simp) ?_
  refine AllReadyH.cons (o := _) rfl (fun K hK => ?_) AllReadyH.nil
  go_simp
  go_at_call 15
  refine (SG.out _ _ _ (G1z.out.on hHeld.2) (G2c.out.on hHeld.2)).mono ?_
  rintro e w9 ⟨rfl, q9⟩
  refine hK.out _ _ ⟨⟨hHeld.1.1.on q9, hHeld.1.2.1.on q9, hHeld.1.2.2.on q9⟩, hHeld.2.trans q9⟩ (fun hHeld => ?_)
  clear hK K
  (try simp only [Act.put, List.getElem_toArray, List.getElem_cons_zero, List.getElem_cons_succ, List.setIfInBounds_toArray, List.set_cons_zero, List.set_cons_succ])
  refine wpAnyH_take (i := 19) (oi := _) (v := ?_) rfl (by kernel_rfl) (by kernel_rfl) (by kernel_rfl) (fun _ _ _ h => h) (Or.inl ⟨by rfl, ?_⟩) (by assumption) ?_
  rotate_left
  · (intro wx hSw; (try dsimp only at hSw); skip; go_simp; (try with_reducible rfl))
  (try simp only [Act.put, List.getElem_toArray, List.getElem_cons_zero, List.getElem_cons_succ, List.setIfInBounds_toArray, List.set_cons_zero, List.set_cons_succ])
  refine wpAnyH_take (i := 20) (oi := _) (v := ?_) rfl (by kernel_rfl) (by kernel_rfl) (by kernel_rfl) (fun _ _ _ h => h) (Or.inl ⟨by rfl, ?_⟩) (by assumption) ?_
  rotate_left
  · (intro wx hSw; (try dsimp only at hSw); skip; go_simp; (try with_reducible rfl))
  (try simp only [Act.put, List.getElem_toArray, List.getElem_cons_zero, List.getElem_cons_succ, List.setIfInBounds_toArray, List.set_cons_zero, List.set_cons_succ])
  refine wpAnyH_take (i := 21) (oi := _) (v := ?_) rfl (by kernel_rfl) (by kernel_rfl) (by kernel_rfl) (fun _ _ _ h => h) (Or.inl ⟨by rfl, ?_⟩) (by assumption) ?_
  rotate_left
  · (intro wx hSw; (try dsimp only at hSw); skip; go_simp; (try with_reducible rfl))
  (try simp only [Act.put, List.getElem_toArray, List.getElem_cons_zero, List.getElem_cons_succ, List.setIfInBounds_toArray, List.set_cons_zero, List.set_cons_succ])
  refine wpAnyH_take (i := 22) (oi := _) (v := ?_) rfl (by kernel_rfl) (by kernel_rfl) (by kernel_rfl) (fun _ _ _ h => h) (Or.inl ⟨by rfl, ?_⟩) (by assumption) ?_
  rotate_left
  · (intro wx hSw; (try dsimp only at hSw); have hy := hSw.1.2.2.cell 0; simp only [List.getElem?_toArray, List.getElem?_cons_zero, List.getElem?_cons_succ] at hy; go_simp; (try with_reducible rfl))
  (try simp only [Act.put, List.getElem_toArray, List.getElem_cons_zero, List.getElem_cons_succ, List.setIfInBounds_toArray, List.set_cons_zero, List.set_cons_succ])
  refine wpAnyH_take (i := 23) (oi := _) (v := ?_) rfl (by kernel_rfl) (by kernel_rfl) (by kernel_rfl) (fun _ _ _ h => h) (Or.inl ⟨by rfl, ?_⟩) (by assumption) ?_
  rotate_left
  · (intro wx hSw; (try dsimp only at hSw); skip; go_simp; (try with_reducible rfl))
  (try simp only [Act.put, List.getElem_toArray, List.getElem_cons_zero, List.getElem_cons_succ, List.setIfInBounds_toArray, List.set_cons_zero, List.set_cons_succ])
  refine wpAnyH_take (i := 24) (oi := _) (v := ?_) rfl (by kernel_rfl) (by kernel_rfl) (by kernel_rfl) (fun _ _ _ h => h) (Or.inl ⟨by rfl, ?_⟩) (by assumption) ?_
  rotate_left
  · (intro wx hSw; (try dsimp only at hSw); skip; go_simp; (try with_reducible rfl))
  (try simp only [Act.put, List.getElem_toArray, List.getElem_cons_zero, List.getElem_cons_succ, List.setIfInBounds_toArray, List.set_cons_zero, List.set_cons_succ])
  refine wpAnyH_take (i := 25) (oi := _) (v := ?_) rfl (by kernel_rfl) (by kernel_rfl) (by kernel_rfl) (fun _ _ _ h => h) (Or.inl ⟨by rfl, ?_⟩) (by assumption) ?_
  rotate_left
  · (intro wx hSw; (try dsimp only at hSw); have hy := hSw.1.2.2.cell 1; simp only [List.getElem?_toArray, List.getElem?_cons_zero, List.getElem?_cons_succ] at hy; go_simp; (try with_reducible rfl))
  (try simp only [Act.put, List.getElem_toArray, List.getElem_cons_zero, List.getElem_cons_succ, List.setIfInBounds_toArray, List.set_cons_zero, List.set_cons_succ])
  refine wpAnyH_take (i := 26) (oi := _) (v := ?_) rfl (by kernel_rfl) (by kernel_rfl) (by kernel_rfl) (fun _ _ _ h => h) (Or.inl ⟨by rfl, ?_⟩) (by assumption) ?_
  rotate_left
  · (intro wx hSw; (try dsimp only at hSw); skip; go_simp; (try with_reducible rfl))
  (try simp only [Act.put, List.getElem_toArray, List.getElem_cons_zero, List.getElem_cons_succ, List.setIfInBounds_toArray, List.set_cons_zero, List.set_cons_succ])
  refine wpAnyH_take (i := 27) (oi := _) (v := ?_) rfl (by kernel_rfl) (by kernel_rfl) (by kernel_rfl) (fun _ _ _ h => h) (Or.inl ⟨by rfl, ?_⟩) (by assumption) ?_
  rotate_left
  · (intro wx hSw; (try dsimp only at hSw); skip; go_simp; (try with_reducible rfl))
  (try simp only [Act.put, List.getElem_toArray, List.getElem_cons_zero, List.getElem_cons_succ, List.setIfInBounds_toArray, List.set_cons_zero, List.set_cons_succ])
  refine wpAnyH_take (i := 28) (oi := _) (v := .bool true) rfl (by kernel_rfl) (by kernel_rfl) (by kernel_rfl) (fun _ _ _ h => h) (Or.inl ⟨by rfl, ?_⟩) (by assumption) ?_
  · (intro wx hSw; (try dsimp only at hSw); skip; go_simp; (try omega); (try simp [*]); (try omega); (try decide))
  (try simp only [Act.put, List.getElem_toArray, List.getElem_cons_zero, List.getElem_cons_succ, List.setIfInBounds_toArray, List.set_cons_zero, List.set_cons_succ])
  refine wpAnyH_take (i := 29) (oi := _) (v := .bool true) rfl (by kernel_rfl) (by kernel_rfl) (by kernel_rfl) (fun _ _ _ h => h) (Or.inl ⟨by rfl, ?_⟩) (by assumption) ?_
  · (intro wx hSw; (try dsimp only at hSw); skip; go_simp; (try omega); (try simp [*]); (try omega); (try decide))
  (try simp only [Act.put, List.getElem_toArray, List.getElem_cons_zero, List.getElem_cons_succ, List.setIfInBounds_toArray, List.set_cons_zero, List.set_cons_succ])
  refine wpAnyH_take (i := 30) (oi := _) (v := .bool true) rfl (by kernel_rfl) (by kernel_rfl) (by kernel_rfl) (fun _ _ _ h => h) (Or.inl ⟨by rfl, ?_⟩) (by assumption) ?_
  · (intro wx hSw; (try dsimp only at hSw); skip; go_simp; (try omega); (try simp [*]); (try omega); (try decide))
  (try simp only [Act.put, List.getElem_toArray, List.getElem_cons_zero, List.getElem_cons_succ, List.setIfInBounds_toArray, List.set_cons_zero, List.set_cons_succ])
  refine wpAnyH_take (i := 31) (oi := _) (v := ?_) rfl (by kernel_rfl) (by kernel_rfl) (by kernel_rfl) (fun _ _ _ h => h) (Or.inl ⟨by rfl, ?_⟩) (by assumption) ?_
  rotate_left
  · (intro wx hSw; (try dsimp only at hSw); skip; go_simp; (try with_reducible rfl))
  (try simp only [Act.put, List.getElem_toArray, List.getElem_cons_zero, List.getElem_cons_succ, List.setIfInBounds_toArray, List.set_cons_zero, List.set_cons_succ])
  refine wpAnyH_take (i := 32) (oi := _) (v := ?_) rfl (by kernel_rfl) (by kernel_rfl) (by kernel_rfl) (fun _ _ _ h => h) (Or.inl ⟨by rfl, ?_⟩) (by assumption) ?_
  rotate_left
  · (intro wx hSw; (try dsimp only at hSw); have hy := hSw.1.2.2.cell 3; simp only [List.getElem?_toArray, List.getElem?_cons_zero, List.getElem?_cons_succ] at hy; go_simp; (try with_reducible rfl))
  (try simp only [Act.put, List.getElem_toArray, List.getElem_cons_zero, List.getElem_cons_succ, List.setIfInBounds_toArray, List.set_cons_zero, List.set_cons_succ])
  refine wpAnyH_take (i := 33) (oi := _) (v := .bool true) rfl (by kernel_rfl) (by kernel_rfl) (by kernel_rfl) (fun _ _ _ h => h) (Or.inl ⟨by rfl, ?_⟩) (by assumption) ?_
  · (intro wx hSw; (try dsimp only at hSw); skip; go_simp; (try omega); (try simp [*]); (try omega); (try decide))
  (try simp only [Act.put, List.getElem_toArray, List.getElem_cons_zero, List.getElem_cons_succ, List.setIfInBounds_toArray, List.set_cons_zero, List.set_cons_succ])
  refine wpAnyH_take (i := 34) (oi := _) (v := .bool true) rfl (by kernel_rfl) (by kernel_rfl) (by kernel_rfl) (fun _ _ _ h => h) (Or.inl ⟨by rfl, ?_⟩) (by assumption) ?_
  · (intro wx hSw; (try dsimp only at hSw); skip; go_simp; (try omega); (try simp [*]); (try omega); (try decide))
  (try simp only [Act.put, List.getElem_toArray, List.getElem_cons_zero, List.getElem_cons_succ, List.setIfInBounds_toArray, List.set_cons_zero, List.set_cons_succ])
  refine wpAnyH_take (i := 35) (oi := _) (v := .bool true) rfl (by kernel_rfl) (by kernel_rfl) (by kernel_rfl) (fun _ _ _ h => h) (Or.inl ⟨by rfl, ?_⟩) (by assumption) ?_
  · (intro wx hSw; (try dsimp only at hSw); skip; go_simp; (try omega); (try simp [*]); (try omega); (try decide))
  (try simp only [Act.put, List.getElem_toArray, List.getElem_cons_zero, List.getElem_cons_succ, List.setIfInBounds_toArray, List.set_cons_zero, List.set_cons_succ])
  refine wpAnyH_take (i := 36) (oi := _) (v := ?_) rfl (by kernel_rfl) (by kernel_rfl) (by kernel_rfl) (fun _ _ _ h => h) (Or.inl ⟨by rfl, ?_⟩) (by assumption) ?_
  rotate_left
  · (intro wx hSw; (try dsimp only at hSw); skip; go_simp; (try with_reducible rfl))
  (try simp only [Act.put, List.getElem_toArray, List.getElem_cons_zero, List.getElem_cons_succ, List.setIfInBounds_toArray, List.set_cons_zero, List.set_cons_succ])
  refine wpAnyH_take (i := 37) (oi := _) (v := ?_) rfl (by kernel_rfl) (by kernel_rfl) (by kernel_rfl) (fun _ _ _ h => h) (Or.inl ⟨by rfl, ?_⟩) (by assumption) ?_
  rotate_left
  · (intro wx hSw; (try dsimp only at hSw); have hy := hSw.1.2.2.cell 2; simp only [List.getElem?_toArray, List.getElem?_cons_zero, List.getElem?_cons_succ] at hy; go_simp; (try with_reducible rfl))
  (try simp only [Act.put, List.getElem_toArray, List.getElem_cons_zero, List.getElem_cons_succ, List.setIfInBounds_toArray, List.set_cons_zero, List.set_cons_succ])
  refine wpAnyH_take (i := 38) (oi := _) (v := ?_) rfl (by kernel_rfl) (by kernel_rfl) (by kernel_rfl) (fun _ _ _ h => h) (Or.inl ⟨by rfl, ?_⟩) (by assumption) ?_
  rotate_left
  · (intro wx hSw; (try dsimp only at hSw); skip; go_simp; (try with_reducible rfl))
  (try simp only [Act.put, List.getElem_toArray, List.getElem_cons_zero, List.getElem_cons_succ, List.setIfInBounds_toArray, List.set_cons_zero, List.set_cons_succ])
  refine wpAnyH_take (i := 39) (oi := _) (v := .bool true) rfl (by kernel_rfl) (by kernel_rfl) (by kernel_rfl) (fun _ _ _ h => h) (Or.inl ⟨by rfl, ?_⟩) (by assumption) ?_
  · (intro wx hSw; (try dsimp only at hSw); skip; go_simp; (try omega); (try simp [*]); (try omega); (try decide))
  (try simp only [Act.put, List.getElem_toArray, List.getElem_cons_zero, List.getElem_cons_succ, List.setIfInBounds_toArray, List.set_cons_zero, List.set_cons_succ])
  refine wpAnyH_take (i := 40) (oi := _) (v := .bool true) rfl (by kernel_rfl) (by kernel_rfl) (by kernel_rfl) (fun _ _ _ h => h) (Or.inl ⟨by rfl, ?_⟩) (by assumption) ?_
  · (intro wx hSw; (try dsimp only at hSw); skip; go_simp; (try omega); (try simp [*]); (try omega); (try decide))
  (try simp only [Act.put, List.getElem_toArray, List.getElem_cons_zero, List.getElem_cons_succ, List.setIfInBounds_toArray, List.set_cons_zero, List.set_cons_succ])
  refine wpAnyH_take (i := 41) (oi := _) (v := undef) rfl (by kernel_rfl) (by kernel_rfl) (by kernel_rfl) (fun _ _ _ h => h) (Or.inr ⟨by rfl, rfl⟩) (by assumption) ?_
  (try simp only [Act.put, List.getElem_toArray, List.getElem_cons_zero, List.getElem_cons_succ, List.setIfInBounds_toArray, List.set_cons_zero, List.set_cons_succ])
  refine wpAnyH_take (i := 42) (oi := _) (v := undef) rfl (by kernel_rfl) (by kernel_rfl) (by kernel_rfl) (fun _ _ _ h => h) (Or.inr ⟨by rfl, rfl⟩) (by assumption) ?_
  (try simp only [Act.put, List.getElem_toArray, List.getElem_cons_zero, List.getElem_cons_succ, List.setIfInBounds_toArray, List.set_cons_zero, List.set_cons_succ])
  refine wpAnyH_take (i := 43) (oi := _) (v := .bool true) rfl (by kernel_rfl) (by kernel_rfl) (by kernel_rfl) (fun _ _ _ h => h) (Or.inl ⟨by rfl, ?_⟩) (by assumption) ?_
  · (intro wx hSw; (try dsimp only at hSw); skip; go_simp; (try omega); (try simp [*]); (try omega); (try decide))
  (try simp only [Act.put, List.getElem_toArray, List.getElem_cons_zero, List.getElem_cons_succ, List.setIfInBounds_toArray, List.set_cons_zero, List.set_cons_succ])
  refine wpAnyH_take (i := 44) (oi := _) (v := .bool true) rfl (by kernel_rfl) (by kernel_rfl) (by kernel_rfl) (fun _ _ _ h => h) (Or.inl ⟨by rfl, ?_⟩) (by assumption) ?_
  · (intro wx hSw; (try dsimp only at hSw); skip; go_simp; (try omega); (try simp [*]); (try omega); (try decide))
  (try simp only [Act.put, List.getElem_toArray, List.getElem_cons_zero, List.getElem_cons_succ, List.setIfInBounds_toArray, List.set_cons_zero, List.set_cons_succ])
  refine wpAnyH_take (i := 45) (oi := _) (v := .bool true) rfl (by kernel_rfl) (by kernel_rfl) (by kernel_rfl) (fun _ _ _ h => h) (Or.inl ⟨by rfl, ?_⟩) (by assumption) ?_
  · (intro wx hSw; (try dsimp only at hSw); skip; go_simp; (try omega); (try simp [*]); (try omega); (try decide))
  (try simp only [Act.put, List.getElem_toArray, List.getElem_cons_zero, List.getElem_cons_succ, List.setIfInBounds_toArray, List.set_cons_zero, List.set_cons_succ])
  refine wpAnyH_take (i := 46) (oi := _) (v := .bool true) rfl (by kernel_rfl) (by kernel_rfl) (by kernel_rfl) (fun _ _ _ h => h) (Or.inl ⟨by rfl, ?_⟩) (by assumption) ?_
  · (intro wx hSw; (try dsimp only at hSw); skip; go_simp; (try omega); (try simp [*]); (try omega); (try decide))
  (try simp only [Act.put, List.getElem_toArray, List.getElem_cons_zero, List.getElem_cons_succ, List.setIfInBounds_toArray, List.set_cons_zero, List.set_cons_succ])
  refine wpAnyH_ready (rs := [47]) (by kernel_rfl) (by simp) ?_
  refine AllReadyH.cons (o := _) rfl (fun K hK => ?_) AllReadyH.nil
  go_simp
  go_at_call 14
  refine (awake_any7 _).mono ?_
  rintro e w10 ⟨rfl, q10⟩
  refine hK.out _ _ ⟨⟨hHeld.1.1.on q10, hHeld.1.2.1.on q10, hHeld.1.2.2.on q10⟩, hHeld.2.trans q10⟩ (fun hHeld => ?_)
  clear hK K
  (try simp only [Act.put, List.getElem_toArray, List.getElem_cons_zero, List.getElem_cons_succ, List.setIfInBounds_toArray, List.set_cons_zero, List.set_cons_succ])
  refine wpAnyH_take (i := 48) (oi := _) (v := .bool true) rfl (by kernel_rfl) (by kernel_rfl) (by kernel_rfl) (fun _ _ _ h => h) (Or.inl ⟨by rfl, ?_⟩) (by assumption) ?_
  · (intro wx hSw; (try dsimp only at hSw); skip; go_simp; (try omega); (try simp [*]); (try omega); (try decide))
  (try simp only [Act.put, List.getElem_toArray, List.getElem_cons_zero, List.getElem_cons_succ, List.setIfInBounds_toArray, List.set_cons_zero, List.set_cons_succ])
  refine wpAnyH_take (i := 49) (oi := _) (v := .bool true) rfl (by kernel_rfl) (by kernel_rfl) (by kernel_rfl) (fun _ _ _ h => h) (Or.inl ⟨by rfl, ?_⟩) (by assumption) ?_
  · (intro wx hSw; (try dsimp only at hSw); skip; go_simp; (try omega); (try simp [*]); (try omega); (try decide))
  (try simp only [Act.put, List.getElem_toArray, List.getElem_cons_zero, List.getElem_cons_succ, List.setIfInBounds_toArray, List.set_cons_zero, List.set_cons_succ])
  refine wpAnyH_done (by kernel_rfl) ?_ _
  have qe := hHeld.2
  go_wp2
  go_ret
  exact ⟨rfl, qA.trans (qz.trans qe)⟩
set_option maxHeartbeats 8000000 in
set_option maxRecDepth 100000 in
theorem w_gt_no (u : Value) (l : List Ent) (pp dd key : ByteArray) (id : Nat) (m : Int) (x y : Nat) (hx : x ≤ 255) (hy : y ≤ 255) (hxy : y < x) (L : List Ent) (k d a : ByteArray) (w : World) (t0 : Ents w w.heap.size u l) (z0 : l.length ≤ maxLen) (sp : pp.size ≤ maxLen) (sd : dd.size ≤ maxLen) (sk : key.size ≤ maxLen) (hL1 : L.length ≤ 1000)
    (CU : Hid (∀ b, Q w b → Calls Try.prog 10 #[.agg #[u, .string pp, .string dd, .string key, .int .u64 (id : Nat), .int .i64 m]] b fun e w' => ∃ u', e = .returned (.agg #[u', .string k, .string d, .string a, .int .u64 (id : Nat), .int .i64 m]) ∧ Ents w' w'.heap.size u' L ∧ Q b w'))
    (K1 : Hid (∀ b v, Ents b b.heap.size v L → Calls Try.prog 11 #[v, .string k, .string d, .string a, .int .i64 (y : Nat)] b (KeysR b noPg 1)))
    (K2 : Hid (∀ b v, Ents b b.heap.size v L → Calls Try.prog 11 #[v, .string k, .string d, .string a, .int .i64 (x : Nat)] b (KeysR b noPg 1)))
    (K3 : Hid (∀ b v, Ents b b.heap.size v L → Calls Try.prog 11 #[v, .string k, .string d, .string a, .int .i64 0] b (KeysR b noPg 1)))
     :
    Calls Try.prog 9 #[.agg #[u, .string pp, .string dd, .string key, .int .u64 (id : Nat), .int .i64 m], .int .u8 (x : Nat), .int .u8 (y : Nat)] w fun e w' => e = .returned (.bool true) ∧ Q w w' := by
  have hx2 : (y : Int) ≤ 255 := by omega
  have hy2 : (x : Int) ≤ 255 := by omega
  have z1 : (y : Int) < (x : Int) := by omega
  have z2 : ¬ (x : Int) < (y : Int) := by omega
  have z3 : ¬ (x : Int) ≤ (y : Int) := by omega
  have z4 : ¬ (y : Int) = (x : Int) := by omega
  have z5 : ¬ (x : Int) = (y : Int) := by omega
  unfold KeysR noPg at K1 K2 K3
  simp only [List.length_nil] at K1 K2 K3
  have qb : Q w (w.alloc (.cells #[u, .string pp, .string dd, .string key, .int .u64 (id : Nat), .int .i64 m] 25)) := (Q.refl w).alloc _
  have bx := Bx.new w 25 #[u, .string pp, .string dd, .string key, .int .u64 (id : Nat), .int .i64 m]
  obtain ⟨A0, c0, rfl⟩ := t0.form
  go_enter Try.func9, Try.ntmps9
  go_wp2_with fail
  refine (CU.out _ qb).mono ?_
  rintro e w1 ⟨u1, rfl, e1, q1⟩
  obtain ⟨A1, c1, rfl⟩ := e1.form
  have bq := bx.on q1
  have x0 := bq.cell 0
  have x1 := bq.cell 1
  have x2 := bq.cell 2
  have x3 := bq.cell 3
  have x4 := bq.cell 4
  have x5 := bq.cell 5
  have f0 := bq.frozen 0
  have f1 := bq.frozen 1
  have f2 := bq.frozen 2
  have f3 := bq.frozen 3
  have f4 := bq.frozen 4
  have f5 := bq.frozen 5
  simp only [List.getElem?_toArray, List.getElem?_cons_zero, List.getElem?_cons_succ] at x0 x1 x2 x3 x4 x5
  obtain ⟨wA, hwA⟩ : ∃ wA, wA = (((((w1.setCell ⟨w.heap.size, 0, none⟩ (.slice A1 L.length c1)).setCell ⟨w.heap.size, 1, none⟩ (.string k)).setCell ⟨w.heap.size, 2, none⟩ (.string d)).setCell ⟨w.heap.size, 3, none⟩ (.string a)).setCell ⟨w.heap.size, 4, none⟩ (.int .u64 (id : Nat))).setCell ⟨w.heap.size, 5, none⟩ (.int .i64 m) := ⟨_, rfl⟩
  have bA : Bx wA w.heap.size 25 #[.slice A1 L.length c1, .string k, .string d, .string a, .int .u64 (id : Nat), .int .i64 m] := by
    rw [hwA]; exact (((((bq.set 0 _).set 1 _).set 2 _).set 3 _).set 4 _).set 5 _
  have qA : Q w wA := by rw [hwA]; exact Q.set (Q.set (Q.set (Q.set (Q.set (Q.set (qb.trans q1) (Nat.le_refl _) _) (Nat.le_refl _) _) (Nat.le_refl _) _) (Nat.le_refl _) _) (Nat.le_refl _) _) (Nat.le_refl _) _
  have t1 : Hid (Ents wA wA.heap.size (.slice A1 L.length c1) L) := Lib.hid (e1.boxed (B := w.heap.size) (t := 25) bq (fun j hj => by rw [hwA]; exact (heap_set _ _ _ _ hj).trans ((heap_set _ _ _ _ hj).trans ((heap_set _ _ _ _ hj).trans ((heap_set _ _ _ _ hj).trans ((heap_set _ _ _ _ hj).trans (heap_set _ _ _ _ hj)))))) (by rw [hwA]; simp))
  have HWA := Lib.hid hwA
  clear bx bq e1 q1 qb t0 hwA
  go_wp2_with fail
  rw [← HWA.out]
  clear HWA x0 x1 x2 x3 x4 x5 f0 f1 f2 f3 f4 f5
  refine (K1.out _ _ t1.out).mono ?_
  rintro e w2 ⟨A1, c1, B1, d1, r1, rfl, e2, g2, q2⟩
  have T1 := Lib.hid e2
  have G1 := Lib.hid g2
  clear e2 g2
  have n1 := Bx.new w2 29 #[.slice A1 0 c1, .slice B1 0 d1, .bool false, .string ⟨#[]⟩]
  have m2 := (Q.refl w2).alloc (.cells #[.slice A1 0 c1, .slice B1 0 d1, .bool false, .string ⟨#[]⟩] 29)
  have q2' := q2.trans m2
  have bKx := bA.on q2'
  have x0 := bKx.cell 0
  have x1 := bKx.cell 1
  have x2 := bKx.cell 2
  have x3 := bKx.cell 3
  have x5 := bKx.cell 5
  simp only [List.getElem?_toArray, List.getElem?_cons_zero, List.getElem?_cons_succ] at x0 x1 x2 x3 x5
  obtain ⟨w3, hw3⟩ : ∃ w3, w3 = w2.alloc (.cells #[.slice A1 0 c1, .slice B1 0 d1, .bool false, .string ⟨#[]⟩] 29) := ⟨_, rfl⟩
  rw [← hw3] at n1 m2 q2'
  have HW3 := Lib.hid hw3
  clear hw3 bKx
  go_wp2_with fail
  rw [← HW3.out]
  refine (K2.out _ _ (t1.out.on q2')).mono ?_
  rintro e w4 ⟨A2, c2, B2, d2, r2, rfl, e2, g2, q4⟩
  have T2 := Lib.hid e2
  have G2 := Lib.hid g2
  clear e2 g2 x0 x1 x2 x3 x5
  have n2 := Bx.new w4 29 #[.slice A2 0 c2, .slice B2 0 d2, .bool false, .string ⟨#[]⟩]
  have m4 := (Q.refl w4).alloc (.cells #[.slice A2 0 c2, .slice B2 0 d2, .bool false, .string ⟨#[]⟩] 29)
  have q4' := (q2'.trans q4).trans m4
  have bKx := bA.on q4'
  have x0 := bKx.cell 0
  have x1 := bKx.cell 1
  have x2 := bKx.cell 2
  have x3 := bKx.cell 3
  have x5 := bKx.cell 5
  simp only [List.getElem?_toArray, List.getElem?_cons_zero, List.getElem?_cons_succ] at x0 x1 x2 x3 x5
  obtain ⟨w5, hw5⟩ : ∃ w5, w5 = w4.alloc (.cells #[.slice A2 0 c2, .slice B2 0 d2, .bool false, .string ⟨#[]⟩] 29) := ⟨_, rfl⟩
  rw [← hw5] at n2 m4 q4'
  have HW5 := Lib.hid hw5
  clear hw5 bKx
  go_wp2_with fail
  rw [← HW5.out]
  refine (K3.out _ _ (t1.out.on q4')).mono ?_
  rintro e w6 ⟨A3, c3, B3, d3, r3, rfl, e2, g2, q6⟩
  clear e2 g2 x0 x1 x2 x3 x5
  have b3 := Bx.new w6 29 #[.slice A3 0 c3, .slice B3 0 d3, .bool false, .string ⟨#[]⟩]
  have m6 := (Q.refl w6).alloc (.cells #[.slice A3 0 c3, .slice B3 0 d3, .bool false, .string ⟨#[]⟩] 29)
  have b2 := (n2.on q6).on m6
  have b1 := (((n1.on q4).on m4).on q6).on m6
  have qz := (q4'.trans q6).trans m6
  have T1z := Lib.hid (T1.out.on ((m2.trans q4).trans ((m4.trans q6).trans m6)))
  have G1z := Lib.hid (G1.out.on ((m2.trans q4).trans ((m4.trans q6).trans m6)))
  have T2z := Lib.hid (T2.out.on ((m4.trans q6).trans m6))
  have G2z := Lib.hid (G2.out.on ((m4.trans q6).trans m6))
  clear T1 G1 T2 G2
  go_wp2_with fail
  refine (awake_any7 _).mono ?_
  rintro e w9 ⟨rfl, q9⟩
  have q := (qA.trans qz).trans q9
  clear t1 K1 K2 K3 CU T1z G1z T2z G2z
  go_wp2
  go_ret
  exact ⟨rfl, q⟩
end Go.Proofs.Ytipipjpdlblifaa.pagerSizes
