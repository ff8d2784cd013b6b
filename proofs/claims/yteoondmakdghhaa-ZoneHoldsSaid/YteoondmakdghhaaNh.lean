/-
  Contracts of the program's Append. Contract of the law's All: so many blocks of one octet.
-/
import Derived.Test.YteoondmakdghhaaNg
import Derived.Test.YteoondmakdghhaaNa
import Derived.Laws.Cover1
namespace Go.Proofs.Yteoondmakdghhaa
set_option maxRecDepth 100000
open Go.ChangeShapes Go.WideShapes Go.ChangeAt Go.RowKit
set_option linter.unusedVariables false
set_option linter.unusedSimpArgs false
set_option maxRecDepth 100000
set_option maxHeartbeats 8000000 in
theorem appZ_any (d : Dv) (u : Value) (z : Int) (t : ByteArray) (w : World) (hd : smD d) (hb : okN d) (h2 : t.size ≤ 6400000) (ht : Zns w w.heap.size u d.zs) : Calls Try.prog 23 #[dvV d u, .int .i64 z, .string t] w (DevC (appD d z t) w) := by
  obtain ⟨A0, c0, rfl⟩ := ht.form
  obtain ⟨n0, hn0⟩ : ∃ n, n = d.zs.length := ⟨_, rfl⟩
  have HN0 := Lib.hid hn0
  rw [← hn0] at ht ⊢
  have HV1 : Hid (t.size = 0 ∨ t.size % 64 ≠ 0 → appD d z t = (noDv, 1)) := Lib.hid (fun h => by unfold appD; rw [if_pos (.inr h)])
  obtain ⟨RES, hRES⟩ : ∃ r, r = appD d z t := ⟨_, rfl⟩
  have C := Lib.hid (fun (x : World) (q : Q w x) (BD BS BM : Nat) (h0 : t.size ≠ 0) (h1 : t.size % 64 = 0) (hD : Bx x BD 24 #[.slice A0 d.zs.length c0, .int .i64 d.size, .int .i64 d.mo, .int .i64 d.fuel, .bool d.off, .int .i64 d.bad]) (hS : Bx x BS 9 #[.string t]) (hM : Bx x BM 3 #[.int .i64 (t.size / 64 : Nat)]) => appC_any d (.slice A0 n0 c0) z t A0 c0 BD BS BM x hd hb h0 h1 h2 (by rw [hn0]) (ht.on q) hD hS hM)
  rw [← hRES] at C HV1 ⊢
  rw [← hn0] at C
  clear ht hb hd hn0 hRES
  obtain ⟨zs, size, mo, fuel, off, bad⟩ := d
  rw [dvV] at C ⊢
  simp only at C HN0 ⊢
  have HP1 : Hid (∀ (e : Unit) w', RES = (noDv, 1) → Q w w' → DevC RES w (.returned (.tuple #[.agg #[.slice none 0 0, .int .i64 0, .int .i64 0, .int .i64 0, .bool false, .int .i64 0], .int .i64 1])) w') := Lib.hid (fun _ w' h q => by rw [h]; exact ⟨.slice none 0 0, rfl, Zns.nil _ _, q⟩)
  obtain ⟨⟨zs7, s7, m7, f7, o7, b7⟩, e7⟩ := RES
  unfold DevC dvV at C
  simp only at C
  have HPO : Hid (∀ e w', (∃ v, e = .returned (.tuple #[.agg #[v, .int .i64 s7, .int .i64 m7, .int .i64 f7, .bool o7, .int .i64 b7], .int .i64 (e7 : Nat)]) ∧ Zns w' w'.heap.size v zs7 ∧ Q w w') → DevC (⟨zs7, s7, m7, f7, o7, b7⟩, e7) w e w') := Lib.hid (fun e w' h => h)
  generalize DevC (⟨zs7, s7, m7, f7, o7, b7⟩, e7) w = PO at HPO HP1 ⊢
  have b0 := ((Bx.new w 24 #[.slice A0 n0 c0, .int .i64 size, .int .i64 mo, .int .i64 fuel, .bool off, .int .i64 bad]).alloc (.cells #[.string t] 9)).alloc (.cells #[.slice none 0 0, .int .i64 0, .int .i64 0, .int .i64 0, .bool false, .int .i64 0] 24)
  have b1 := (Bx.new (w.alloc (.cells #[.slice A0 n0 c0, .int .i64 size, .int .i64 mo, .int .i64 fuel, .bool off, .int .i64 bad] 24)) 9 #[.string t]).alloc (.cells #[.slice none 0 0, .int .i64 0, .int .i64 0, .int .i64 0, .bool false, .int .i64 0] 24)
  have b2 := Bx.new ((w.alloc (.cells #[.slice A0 n0 c0, .int .i64 size, .int .i64 mo, .int .i64 fuel, .bool off, .int .i64 bad] 24)).alloc (.cells #[.string t] 9)) 24 #[.slice none 0 0, .int .i64 0, .int .i64 0, .int .i64 0, .bool false, .int .i64 0]
  have q0 := (((Q.refl w).alloc (.cells #[.slice A0 n0 c0, .int .i64 size, .int .i64 mo, .int .i64 fuel, .bool off, .int .i64 bad] 24)).alloc (.cells #[.string t] 9)).alloc (.cells #[.slice none 0 0, .int .i64 0, .int .i64 0, .int .i64 0, .bool false, .int .i64 0] 24)
  have hs0 : (((w.alloc (.cells #[.slice A0 n0 c0, .int .i64 size, .int .i64 mo, .int .i64 fuel, .bool off, .int .i64 bad] 24)).alloc (.cells #[.string t] 9)).alloc (.cells #[.slice none 0 0, .int .i64 0, .int .i64 0, .int .i64 0, .bool false, .int .i64 0] 24)).heap.size = w.heap.size + 1 + 1 + 1 := by simp
  simp only [World.size_alloc] at b1 b2
  obtain ⟨W0, hW0⟩ : ∃ z, z = ((w.alloc (.cells #[.slice A0 n0 c0, .int .i64 size, .int .i64 mo, .int .i64 fuel, .bool off, .int .i64 bad] 24)).alloc (.cells #[.string t] 9)).alloc (.cells #[.slice none 0 0, .int .i64 0, .int .i64 0, .int .i64 0, .bool false, .int .i64 0] 24) := ⟨_, rfl⟩
  rw [← hW0] at b0 b1 b2 q0 hs0
  have BX0 := Lib.hid b0
  have BX1 := Lib.hid b1
  have BX2 := Lib.hid b2
  have Q0 := Lib.hid q0
  have HS0 := Lib.hid hs0
  clear b0 b1 b2 q0 hs0
  have x1 : W0.cell? ⟨w.heap.size + 1, 0, none⟩ = some (.string t) := BX1.out.cell 0
  by_cases h0 : t.size = 0
  · have HV := Lib.hid (HV1.out (.inl h0))
    obtain rfl : t = ⟨#[]⟩ := by
      cases t with
      | mk a => have h0 : a.size = 0 := h0; rw [Array.eq_empty_of_size_eq_zero h0]
    go_enter Try.func23, Try.ntmps23
    go_upto_region 1 with fail
    rw [← hW0]
    clear hW0
    obtain ⟨g0, g1, g2, g3, g4, g5⟩ : W0.cell? ⟨w.heap.size + 1 + 1, 0, none⟩ = some (.slice none 0 0) ∧ W0.cell? ⟨w.heap.size + 1 + 1, 1, none⟩ = some (.int .i64 0) ∧ W0.cell? ⟨w.heap.size + 1 + 1, 2, none⟩ = some (.int .i64 0) ∧ W0.cell? ⟨w.heap.size + 1 + 1, 3, none⟩ = some (.int .i64 0) ∧ W0.cell? ⟨w.heap.size + 1 + 1, 4, none⟩ = some (.bool false) ∧ W0.cell? ⟨w.heap.size + 1 + 1, 5, none⟩ = some (.int .i64 0) := ⟨BX2.out.cell 0, BX2.out.cell 1, BX2.out.cell 2, BX2.out.cell 3, BX2.out.cell 4, BX2.out.cell 5⟩
    have l0 := BX2.out.frozen 0
    have l1 := BX2.out.frozen 1
    have l2 := BX2.out.frozen 2
    have l3 := BX2.out.frozen 3
    have l4 := BX2.out.frozen 4
    have l5 := BX2.out.frozen 5
    have c9 := ((((((BX2.out.set 0 (.slice none 0 0)).set 1 (.int .i64 0)).set 2 (.int .i64 0)).set 3 (.int .i64 0)).set 4 (.bool false)).set 5 (.int .i64 0))
    have q9 : Q w ((((((W0.setCell ⟨w.heap.size + 1 + 1, 0, none⟩ (.slice none 0 0)).setCell ⟨w.heap.size + 1 + 1, 1, none⟩ (.int .i64 0)).setCell ⟨w.heap.size + 1 + 1, 2, none⟩ (.int .i64 0)).setCell ⟨w.heap.size + 1 + 1, 3, none⟩ (.int .i64 0)).setCell ⟨w.heap.size + 1 + 1, 4, none⟩ (.bool false)).setCell ⟨w.heap.size + 1 + 1, 5, none⟩ (.int .i64 0)) := (Q.set (Q.set (Q.set (Q.set (Q.set (Q.set Q0.out (by omega) _) (by omega) _) (by omega) _) (by omega) _) (by omega) _) (by omega) _)
    have k9 : ∀ j, j ≠ w.heap.size + 1 + 1 → ((((((W0.setCell ⟨w.heap.size + 1 + 1, 0, none⟩ (.slice none 0 0)).setCell ⟨w.heap.size + 1 + 1, 1, none⟩ (.int .i64 0)).setCell ⟨w.heap.size + 1 + 1, 2, none⟩ (.int .i64 0)).setCell ⟨w.heap.size + 1 + 1, 3, none⟩ (.int .i64 0)).setCell ⟨w.heap.size + 1 + 1, 4, none⟩ (.bool false)).setCell ⟨w.heap.size + 1 + 1, 5, none⟩ (.int .i64 0)).heap[j]? = W0.heap[j]? := fun j hne => (heap_set _ _ _ _ hne).trans ( (heap_set _ _ _ _ hne).trans ( (heap_set _ _ _ _ hne).trans ( (heap_set _ _ _ _ hne).trans ( (heap_set _ _ _ _ hne).trans ( heap_set _ _ _ _ hne)))))
    obtain ⟨w9, hw9⟩ : ∃ z, z = ((((((W0.setCell ⟨w.heap.size + 1 + 1, 0, none⟩ (.slice none 0 0)).setCell ⟨w.heap.size + 1 + 1, 1, none⟩ (.int .i64 0)).setCell ⟨w.heap.size + 1 + 1, 2, none⟩ (.int .i64 0)).setCell ⟨w.heap.size + 1 + 1, 3, none⟩ (.int .i64 0)).setCell ⟨w.heap.size + 1 + 1, 4, none⟩ (.bool false)).setCell ⟨w.heap.size + 1 + 1, 5, none⟩ (.int .i64 0)) := ⟨_, rfl⟩
    rw [← hw9] at c9 q9 k9
    simp only [List.setIfInBounds_toArray, List.set_cons_zero, List.set_cons_succ] at c9
    have C9 := Lib.hid c9
    have Q9 := Lib.hid q9
    have K9 := Lib.hid k9
    clear c9 q9 k9
    go_wp2_with fail
    rw [← hw9]
    clear hw9
    obtain ⟨k0, k1, k2, k3, k4, k5⟩ : w9.cell? ⟨w.heap.size + 1 + 1, 0, none⟩ = some (.slice none 0 0) ∧ w9.cell? ⟨w.heap.size + 1 + 1, 1, none⟩ = some (.int .i64 0) ∧ w9.cell? ⟨w.heap.size + 1 + 1, 2, none⟩ = some (.int .i64 0) ∧ w9.cell? ⟨w.heap.size + 1 + 1, 3, none⟩ = some (.int .i64 0) ∧ w9.cell? ⟨w.heap.size + 1 + 1, 4, none⟩ = some (.bool false) ∧ w9.cell? ⟨w.heap.size + 1 + 1, 5, none⟩ = some (.int .i64 0) := ⟨C9.out.cell 0, C9.out.cell 1, C9.out.cell 2, C9.out.cell 3, C9.out.cell 4, C9.out.cell 5⟩
    (try simp only [Exit.inBlock, Exit.then])
    (try simp only [Exit.inBlock, Exit.then])
    refine bodyPost_ret (v := .tuple #[.agg #[.slice none 0 0, .int .i64 0, .int .i64 0, .int .i64 0, .bool false, .int .i64 0], .int .i64 1]) ?_ rfl ?_
    · rw [results_cell_tmp rfl]
      go_simp
    · exact HP1.out () _ HV.out Q9.out
  · have ht0 : ¬ t.toList = [] := fun e => h0 ((nil_text t).1 e)
    have ht0b : t.toList.isEmpty = false := by
      cases hh : t.toList with
      | nil => exact absurd hh ht0
      | cons => rfl
    by_cases hr : t.size % 64 = 0
    · have ht2 : (t.size : Int).tmod 64 = 0 := by rw [show (64 : Int) = ((64 : Nat) : Int) by rfl, ← Int.ofNat_tmod]; omega
      have HC := Lib.hid (fun x q BD BS BM hD hS hM => C.out x q BD BS BM h0 hr hD hS hM)
      obtain ⟨m, hm⟩ : ∃ m, m = t.size / 64 := ⟨_, rfl⟩
      rw [← hm] at HC
      have ht3 : (t.size : Int).tdiv 64 = (m : Int) := by rw [show (64 : Int) = ((64 : Nat) : Int) by rfl, ← Int.ofNat_tdiv]; omega
      have ht4 : IntKind.i64.wrap (m : Int) = (m : Int) := by rw [IntKind.wrap_i64] <;> omega
      clear hm hr h0 C HV1
      go_enter Try.func23, Try.ntmps23
      go_upto_region 1 with fail
      rw [← hW0]
      clear hW0
      go_upto_region 4 with fail
      have bm := Bx.new W0 3 #[.int .i64 m]
      have qm := (Q.refl W0).alloc (.cells #[.int .i64 m] 3)
      obtain ⟨BM, hBM⟩ : ∃ x, x = W0.heap.size := ⟨_, rfl⟩
      rw [← hBM] at bm ⊢
      clear hBM
      obtain ⟨W1, hW1⟩ : ∃ x, x = W0.alloc (.cells #[.int .i64 m] 3) := ⟨_, rfl⟩
      rw [← hW1] at bm qm ⊢
      clear hW1 x1
      have Q1 := Lib.hid (Q0.out.trans qm)
      have hz0 := BX0.out.on qm
      have hz1 := BX1.out.on qm
      have BX21 := Lib.hid (BX2.out.on qm)
      have C1 := Lib.hid (HC.out W1 Q1.out (w.heap.size) (w.heap.size + 1) BM hz0 hz1 bm)
      have t8 : W1.cell? ⟨BM, 0, none⟩ = some (.int .i64 m) := bm.cell 0
      obtain ⟨x0, x1, x2, x3, x4, x5⟩ : W1.cell? ⟨w.heap.size, 0, none⟩ = some (.slice A0 n0 c0) ∧ W1.cell? ⟨w.heap.size, 1, none⟩ = some (.int .i64 size) ∧ W1.cell? ⟨w.heap.size, 2, none⟩ = some (.int .i64 mo) ∧ W1.cell? ⟨w.heap.size, 3, none⟩ = some (.int .i64 fuel) ∧ W1.cell? ⟨w.heap.size, 4, none⟩ = some (.bool off) ∧ W1.cell? ⟨w.heap.size, 5, none⟩ = some (.int .i64 bad) := ⟨hz0.cell 0, hz0.cell 1, hz0.cell 2, hz0.cell 3, hz0.cell 4, hz0.cell 5⟩
      clear hz0 hz1 bm qm HC
      go_wp2_with fail
      refine (C1.out).mono ?_
      rintro e w1 ⟨v9, rfl, hz7, d1⟩
      clear x0 x1 x2 x3 x4 x5
      obtain ⟨A7, c7, rfl⟩ := hz7.form
      obtain ⟨n7, hn7⟩ : ∃ n, n = zs7.length := ⟨_, rfl⟩
      rw [← hn7] at hz7 ⊢
      have HZ9 := Lib.hid hz7
      clear hz7 hn7
      have b6 := BX21.out.on d1
      have q6 := Q1.out.trans d1
      have HB6 := Lib.hid b6
      have S6 : Hid (w1.heap.size ≤ (((((((w1.setCell ⟨w.heap.size + 1 + 1, 0, none⟩ (.slice A7 n7 c7)).setCell ⟨w.heap.size + 1 + 1, 1, none⟩ (.int .i64 s7)).setCell ⟨w.heap.size + 1 + 1, 2, none⟩ (.int .i64 m7)).setCell ⟨w.heap.size + 1 + 1, 3, none⟩ (.int .i64 f7)).setCell ⟨w.heap.size + 1 + 1, 4, none⟩ (.bool o7)).setCell ⟨w.heap.size + 1 + 1, 5, none⟩ (.int .i64 b7))).heap.size) := Lib.hid (by simp)
      obtain ⟨g0, g1, g2, g3, g4, g5⟩ : w1.cell? ⟨w.heap.size + 1 + 1, 0, none⟩ = some (.slice none 0 0) ∧ w1.cell? ⟨w.heap.size + 1 + 1, 1, none⟩ = some (.int .i64 0) ∧ w1.cell? ⟨w.heap.size + 1 + 1, 2, none⟩ = some (.int .i64 0) ∧ w1.cell? ⟨w.heap.size + 1 + 1, 3, none⟩ = some (.int .i64 0) ∧ w1.cell? ⟨w.heap.size + 1 + 1, 4, none⟩ = some (.bool false) ∧ w1.cell? ⟨w.heap.size + 1 + 1, 5, none⟩ = some (.int .i64 0) := ⟨b6.cell 0, b6.cell 1, b6.cell 2, b6.cell 3, b6.cell 4, b6.cell 5⟩
      have l0 := b6.frozen 0
      have l1 := b6.frozen 1
      have l2 := b6.frozen 2
      have l3 := b6.frozen 3
      have l4 := b6.frozen 4
      have l5 := b6.frozen 5
      have c9 := ((((((b6.set 0 (.slice A7 n7 c7)).set 1 (.int .i64 s7)).set 2 (.int .i64 m7)).set 3 (.int .i64 f7)).set 4 (.bool o7)).set 5 (.int .i64 b7))
      have q9 : Q w ((((((w1.setCell ⟨w.heap.size + 1 + 1, 0, none⟩ (.slice A7 n7 c7)).setCell ⟨w.heap.size + 1 + 1, 1, none⟩ (.int .i64 s7)).setCell ⟨w.heap.size + 1 + 1, 2, none⟩ (.int .i64 m7)).setCell ⟨w.heap.size + 1 + 1, 3, none⟩ (.int .i64 f7)).setCell ⟨w.heap.size + 1 + 1, 4, none⟩ (.bool o7)).setCell ⟨w.heap.size + 1 + 1, 5, none⟩ (.int .i64 b7)) := (Q.set (Q.set (Q.set (Q.set (Q.set (Q.set q6 (by omega) _) (by omega) _) (by omega) _) (by omega) _) (by omega) _) (by omega) _)
      have k9 : ∀ j, j ≠ w.heap.size + 1 + 1 → ((((((w1.setCell ⟨w.heap.size + 1 + 1, 0, none⟩ (.slice A7 n7 c7)).setCell ⟨w.heap.size + 1 + 1, 1, none⟩ (.int .i64 s7)).setCell ⟨w.heap.size + 1 + 1, 2, none⟩ (.int .i64 m7)).setCell ⟨w.heap.size + 1 + 1, 3, none⟩ (.int .i64 f7)).setCell ⟨w.heap.size + 1 + 1, 4, none⟩ (.bool o7)).setCell ⟨w.heap.size + 1 + 1, 5, none⟩ (.int .i64 b7)).heap[j]? = w1.heap[j]? := fun j hne => (heap_set _ _ _ _ hne).trans ( (heap_set _ _ _ _ hne).trans ( (heap_set _ _ _ _ hne).trans ( (heap_set _ _ _ _ hne).trans ( (heap_set _ _ _ _ hne).trans ( heap_set _ _ _ _ hne)))))
      obtain ⟨w9, hw9⟩ : ∃ z, z = ((((((w1.setCell ⟨w.heap.size + 1 + 1, 0, none⟩ (.slice A7 n7 c7)).setCell ⟨w.heap.size + 1 + 1, 1, none⟩ (.int .i64 s7)).setCell ⟨w.heap.size + 1 + 1, 2, none⟩ (.int .i64 m7)).setCell ⟨w.heap.size + 1 + 1, 3, none⟩ (.int .i64 f7)).setCell ⟨w.heap.size + 1 + 1, 4, none⟩ (.bool o7)).setCell ⟨w.heap.size + 1 + 1, 5, none⟩ (.int .i64 b7)) := ⟨_, rfl⟩
      rw [← hw9] at c9 q9 k9 S6
      simp only [List.setIfInBounds_toArray, List.set_cons_zero, List.set_cons_succ] at c9
      have C9 := Lib.hid c9
      have Q9 := Lib.hid q9
      have K9 := Lib.hid k9
      clear c9 q9 k9
      go_wp2_with fail
      rw [← hw9]
      clear hw9
      obtain ⟨k0, k1, k2, k3, k4, k5⟩ : w9.cell? ⟨w.heap.size + 1 + 1, 0, none⟩ = some (.slice A7 n7 c7) ∧ w9.cell? ⟨w.heap.size + 1 + 1, 1, none⟩ = some (.int .i64 s7) ∧ w9.cell? ⟨w.heap.size + 1 + 1, 2, none⟩ = some (.int .i64 m7) ∧ w9.cell? ⟨w.heap.size + 1 + 1, 3, none⟩ = some (.int .i64 f7) ∧ w9.cell? ⟨w.heap.size + 1 + 1, 4, none⟩ = some (.bool o7) ∧ w9.cell? ⟨w.heap.size + 1 + 1, 5, none⟩ = some (.int .i64 b7) := ⟨C9.out.cell 0, C9.out.cell 1, C9.out.cell 2, C9.out.cell 3, C9.out.cell 4, C9.out.cell 5⟩
      (try simp only [Exit.inBlock, Exit.then])
      refine bodyPost_ret (v := .tuple #[.agg #[.slice A7 n7 c7, .int .i64 s7, .int .i64 m7, .int .i64 f7, .bool o7, .int .i64 b7], .int .i64 (e7 : Nat)]) ?_ rfl ?_
      · rw [results_cell_tmp rfl]
        go_simp
      · exact HPO.out _ _ ⟨_, rfl, Zns.off HZ9.out HB6.out K9.out S6.out, Q9.out⟩
    · have HV := Lib.hid (HV1.out (.inr hr))
      obtain ⟨r, hr2⟩ : ∃ r, r = t.size % 64 := ⟨_, rfl⟩
      have ht2 : (t.size : Int).tmod 64 = (r : Int) := by rw [show (64 : Int) = ((64 : Nat) : Int) by rfl, ← Int.ofNat_tmod, hr2]
      have ht3 : ((r : Int) != 0) = true := by simp; omega
      clear hr hr2 h0
      go_enter Try.func23, Try.ntmps23
      go_upto_region 1 with fail
      rw [← hW0]
      clear hW0
      obtain ⟨g0, g1, g2, g3, g4, g5⟩ : W0.cell? ⟨w.heap.size + 1 + 1, 0, none⟩ = some (.slice none 0 0) ∧ W0.cell? ⟨w.heap.size + 1 + 1, 1, none⟩ = some (.int .i64 0) ∧ W0.cell? ⟨w.heap.size + 1 + 1, 2, none⟩ = some (.int .i64 0) ∧ W0.cell? ⟨w.heap.size + 1 + 1, 3, none⟩ = some (.int .i64 0) ∧ W0.cell? ⟨w.heap.size + 1 + 1, 4, none⟩ = some (.bool false) ∧ W0.cell? ⟨w.heap.size + 1 + 1, 5, none⟩ = some (.int .i64 0) := ⟨BX2.out.cell 0, BX2.out.cell 1, BX2.out.cell 2, BX2.out.cell 3, BX2.out.cell 4, BX2.out.cell 5⟩
      have l0 := BX2.out.frozen 0
      have l1 := BX2.out.frozen 1
      have l2 := BX2.out.frozen 2
      have l3 := BX2.out.frozen 3
      have l4 := BX2.out.frozen 4
      have l5 := BX2.out.frozen 5
      have c9 := ((((((BX2.out.set 0 (.slice none 0 0)).set 1 (.int .i64 0)).set 2 (.int .i64 0)).set 3 (.int .i64 0)).set 4 (.bool false)).set 5 (.int .i64 0))
      have q9 : Q w ((((((W0.setCell ⟨w.heap.size + 1 + 1, 0, none⟩ (.slice none 0 0)).setCell ⟨w.heap.size + 1 + 1, 1, none⟩ (.int .i64 0)).setCell ⟨w.heap.size + 1 + 1, 2, none⟩ (.int .i64 0)).setCell ⟨w.heap.size + 1 + 1, 3, none⟩ (.int .i64 0)).setCell ⟨w.heap.size + 1 + 1, 4, none⟩ (.bool false)).setCell ⟨w.heap.size + 1 + 1, 5, none⟩ (.int .i64 0)) := (Q.set (Q.set (Q.set (Q.set (Q.set (Q.set Q0.out (by omega) _) (by omega) _) (by omega) _) (by omega) _) (by omega) _) (by omega) _)
      have k9 : ∀ j, j ≠ w.heap.size + 1 + 1 → ((((((W0.setCell ⟨w.heap.size + 1 + 1, 0, none⟩ (.slice none 0 0)).setCell ⟨w.heap.size + 1 + 1, 1, none⟩ (.int .i64 0)).setCell ⟨w.heap.size + 1 + 1, 2, none⟩ (.int .i64 0)).setCell ⟨w.heap.size + 1 + 1, 3, none⟩ (.int .i64 0)).setCell ⟨w.heap.size + 1 + 1, 4, none⟩ (.bool false)).setCell ⟨w.heap.size + 1 + 1, 5, none⟩ (.int .i64 0)).heap[j]? = W0.heap[j]? := fun j hne => (heap_set _ _ _ _ hne).trans ( (heap_set _ _ _ _ hne).trans ( (heap_set _ _ _ _ hne).trans ( (heap_set _ _ _ _ hne).trans ( (heap_set _ _ _ _ hne).trans ( heap_set _ _ _ _ hne)))))
      obtain ⟨w9, hw9⟩ : ∃ z, z = ((((((W0.setCell ⟨w.heap.size + 1 + 1, 0, none⟩ (.slice none 0 0)).setCell ⟨w.heap.size + 1 + 1, 1, none⟩ (.int .i64 0)).setCell ⟨w.heap.size + 1 + 1, 2, none⟩ (.int .i64 0)).setCell ⟨w.heap.size + 1 + 1, 3, none⟩ (.int .i64 0)).setCell ⟨w.heap.size + 1 + 1, 4, none⟩ (.bool false)).setCell ⟨w.heap.size + 1 + 1, 5, none⟩ (.int .i64 0)) := ⟨_, rfl⟩
      rw [← hw9] at c9 q9 k9
      simp only [List.setIfInBounds_toArray, List.set_cons_zero, List.set_cons_succ] at c9
      have C9 := Lib.hid c9
      have Q9 := Lib.hid q9
      have K9 := Lib.hid k9
      clear c9 q9 k9
      go_wp2_with fail
      rw [← hw9]
      clear hw9
      obtain ⟨k0, k1, k2, k3, k4, k5⟩ : w9.cell? ⟨w.heap.size + 1 + 1, 0, none⟩ = some (.slice none 0 0) ∧ w9.cell? ⟨w.heap.size + 1 + 1, 1, none⟩ = some (.int .i64 0) ∧ w9.cell? ⟨w.heap.size + 1 + 1, 2, none⟩ = some (.int .i64 0) ∧ w9.cell? ⟨w.heap.size + 1 + 1, 3, none⟩ = some (.int .i64 0) ∧ w9.cell? ⟨w.heap.size + 1 + 1, 4, none⟩ = some (.bool false) ∧ w9.cell? ⟨w.heap.size + 1 + 1, 5, none⟩ = some (.int .i64 0) := ⟨C9.out.cell 0, C9.out.cell 1, C9.out.cell 2, C9.out.cell 3, C9.out.cell 4, C9.out.cell 5⟩
      (try simp only [Exit.inBlock, Exit.then])
      (try simp only [Exit.inBlock, Exit.then])
      refine bodyPost_ret (v := .tuple #[.agg #[.slice none 0 0, .int .i64 0, .int .i64 0, .int .i64 0, .bool false, .int .i64 0], .int .i64 1]) ?_ rfl ?_
      · rw [results_cell_tmp rfl]
        go_simp
      · exact HP1.out () _ HV.out Q9.out
end Go.Proofs.Yteoondmakdghhaa

namespace Go.Proofs.Yteoondmakdghhaa
set_option maxRecDepth 100000
open Go.ChangeShapes Go.WideShapes Go.ChangeAt Go.RowKit
set_option linter.unusedVariables false
set_option linter.unusedSimpArgs false
set_option maxRecDepth 100000
theorem info_u8 : (Try.prog.info? 5).map (fun i => (i.zero, i.size, i.bytes)) = some (some (.int .u8 0), 1, 1) := by kernel_rfl
theorem byte_append (a b : List UInt8) : Lib.byteCells (a ++ b) = Lib.byteCells a ++ Lib.byteCells b := by simp [Lib.byteCells]
/-- So far l's octets, and noughts. -/
def soFar (l : List UInt8) (j : Nat) : List Value := Lib.byteCells (l.take j) ++ List.replicate (l.length - j) (.int .u8 0)
theorem soFar_zero (l : List UInt8) : soFar l 0 = List.replicate l.length (.int .u8 0) := rfl
theorem soFar_end (l : List UInt8) : soFar l l.length = Lib.byteCells l := by rw [soFar, List.take_length, Nat.sub_self]; simp
theorem cells_take (l : List UInt8) (j : Nat) (h : j ≤ l.length) : (Lib.byteCells (l.take j)).length = j := by
  rw [Lib.byteCells_length, List.length_take]; omega
theorem soFar_at (l : List UInt8) (j : Nat) (h : j < l.length) : (soFar l j)[j]? = some (.int .u8 0) := by
  have hb := cells_take l j (Nat.le_of_lt h)
  rw [soFar, List.getElem?_append_right (by omega), hb, Nat.sub_self, show l.length - j = (l.length - (j + 1)) + 1 by omega, List.replicate_succ]
  rfl
theorem soFar_set (l : List UInt8) (j : Nat) (h : j < l.length) : (soFar l j).set j (.int .u8 (l[j].toNat : Nat)) = soFar l (j + 1) := by
  have hb := cells_take l j (Nat.le_of_lt h)
  rw [soFar, soFar, List.set_append_right _ _ (by omega), hb, Nat.sub_self, show l.length - j = (l.length - (j + 1)) + 1 by omega, List.replicate_succ, List.set_cons_zero, List.take_succ_eq_append_getElem h, byte_append, List.append_assoc]
  rfl
theorem conv_row {base g cap : Nat} {w : World} {l : List UInt8} (h : w.ownsRow base 5 1 (.slice (some ⟨g, 0, none⟩) l.length cap) l.length (Lib.byteCells l)) :
    (convert 65 9 (.slice (some ⟨g, 0, none⟩) l.length cap)).run Try.prog w = .ok (.string (mk l)) w :=
  run_convert_bytes_back (P := Try.prog) w 65 9 5 ⟨g, 0, none⟩ cap l Try.underlying65 Try.underlying5 Try.underlying9 (fun j hj => World.ownsRow.cells (g := g) h rfl j _ (by simp [Lib.byteCells, hj]))
set_option maxHeartbeats 4000000 in
theorem all_any (c n : Nat) (w : World) (hc : c < 256) (h0 : 0 < n) (hn : n ≤ 100) :
    Calls Try.prog 24 #[.int .u8 c, .int .i64 n] w fun e w' => e = .returned (.string (octsB c n)) ∧ Q w w' := by
  obtain ⟨i0, hi, hz0, hz1, hz2⟩ := info_parts info_u8
  obtain ⟨l, hll⟩ : ∃ l, l = List.replicate (64 * n) c.toUInt8 := ⟨_, rfl⟩
  have HOB : Hid (octsB c n = mk l) := Lib.hid (by rw [hll]; rfl)
  have hg0 : ∀ j (h : j < l.length), l[j].toNat = c := fun j h => by
    subst hll
    rw [List.getElem_replicate]
    simp; omega
  obtain ⟨N, hN⟩ : ∃ N, N = 64 * n := ⟨_, rfl⟩
  have hl : l.length = N := by rw [hll, List.length_replicate, hN]
  have hNi : (64 : Int) * (n : Int) = (N : Int) := by omega
  have hN1 : N ≤ 6400 := by omega
  have hN0 : 0 < N := by omega
  have HG := Lib.hid hg0
  clear hll hg0 hN
  go_enter Try.func24, Try.ntmps24
  go_wp2_with (at_make; refine wpList_make_full _ rfl _ _ 65 rfl w.heap.size 5 i0 (.int .u8 0) 1 Try.underlying65 hi hz0 hz1 .i64 .i64 _ _ N rfl rfl rfl rfl (by rw [hz2]; omega) (by unfold maxLen; omega) (Nat.le_refl _) ?_; intro w4 o4 g4; refine Hid.out ?_)
  refine Lib.hid ?_
  have b4 : Below w.heap.size w w4 := (Below.refl _ w).grown g4 (Nat.le_refl _) (by simp)
  rw [Nat.mul_one] at o4
  rw [show (Value.int IntKind.u8 0).cells = #[Value.int IntKind.u8 0] by rfl, toList_madeCells_one] at o4
  have O := Lib.hid o4
  clear o4 g4
  go_wp2_with fail
  go_loopw [6] (fun I wr => ∃ j : Nat, j ≤ N ∧ I = .int .i64 j ∧ Hid (wr.ownsRow w.heap.size 5 1 (.slice (some ⟨w.heap.size, 0, none⟩) N N) N (soFar l j)) ∧ Below w.heap.size w wr) (fun I _ => N - (intOf I).toNat)
  case atStart => exact ⟨0, Nat.zero_le _, rfl, Lib.hid (by rw [soFar_zero, hl]; exact O.out), b4⟩
  case round =>
    obtain ⟨j, hj, rfl, HO, bel⟩ := hrel
    clear O b4
    by_cases hlt : j < N
    · have hjl : j < l.length := by rw [hl]; exact hlt
      have hg := HG.out j hjl
      have c1 : wr.cell? ⟨w.heap.size, j, none⟩ = some (.int .u8 0) := by
        rw [HO.out.cellAt j (by omega)]; exact soFar_at l j hjl
      have f1 := HO.out.frozenAt j
      have S := HO.out.stored j (.int .u8 (l[j].toNat : Nat))
      rw [soFar_set l j hjl, hg] at S
      have S1 := Lib.hid S.1
      have bel2 := Below.setCell bel (p := ⟨w.heap.size, j, none⟩) (Nat.le_refl _) (.int .u8 (c : Nat))
      have hjlt : (j : Int) < (N : Int) := by omega
      clear S hg hjl
      go_wp2_with fail
      go_roundw
      case rel => exact ⟨j + 1, by omega, by go_num, S1, bel2⟩
      case measure => simp [intOf]; omega
    · obtain rfl : j = N := by omega
      have hcv := conv_row (base := w.heap.size) (g := w.heap.size) (cap := j) (w := wr) (l := l) (by rw [← soFar_end, hl]; exact HO.out)
      rw [hl] at hcv
      go_wp2_with fail
      go_ret
      exact ⟨by rw [HOB.out]; rfl, bel⟩
end Go.Proofs.Yteoondmakdghhaa

