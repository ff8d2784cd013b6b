/-
  Contracts of the program's Fuel, Read and Flush. Contract of the program's Flush.
-/
import Derived.Test.YteoondmakdghhaaRc
namespace Go.Proofs.Yteoondmakdghhaa
set_option maxRecDepth 100000
open Go.ChangeShapes Go.WideShapes Go.ChangeAt Go.RowKit
set_option linter.unusedVariables false
set_option linter.unusedSimpArgs false
set_option maxRecDepth 100000
/-- Rows of the call's own, as slices that are read. -/
theorem Fr.blks {w : World} {R : Nat} {P : List (Zn × Value)} (h : Fr w R P P.length) : ∀ p ∈ P, Blks w w.heap.size p.2 p.1.b := by
  intro p hp
  obtain ⟨k, hk, rfl⟩ := List.getElem_of_mem hp
  obtain ⟨g, t, -, -⟩ := h k _ hk (List.getElem?_eq_getElem hk)
  exact t.blks.more (Bx.lt t.2)
theorem Fr.keep {w w2 : World} {R : Nat} {P : List (Zn × Value)} {m : Nat} (h : Fr w R P m) (k : ∀ j, R < j → w2.heap[j]? = w.heap[j]?) : Fr w2 R P m := by
  intro i p hi hp
  obtain ⟨g, t, r, f⟩ := h i p hi hp
  exact ⟨g, ⟨t.1, t.2.same (k g r)⟩, r, f⟩
theorem fr_zns {w : World} {R : Nat} {P : List (Zn × Value)} (z : ZB w R P) (f : Fr w R P P.length) (ok : ∀ p ∈ P, okZ p.1) {l : List Zn} (hl : P.map (·.1) = l) : Zns w w.heap.size (.slice (some ⟨R, 0, none⟩) l.length l.length) l := by
  subst hl
  rw [List.length_map]
  exact ZB.zns z rfl (fun p hp => ⟨ok p hp, f.blks p hp⟩) rfl
set_option maxHeartbeats 8000000 in
theorem fuelZ_any (d : Dv) (u : Value) (n : Int) (w : World) (hd : smD d) (ht : Zns w w.heap.size u d.zs) : Calls Try.prog 11 #[dvV d u, .int .i64 n] w (DevC (fuelD d n) w) := by
  obtain ⟨A0, c0, rfl⟩ := ht.form
  obtain ⟨n0, hn0⟩ : ∃ n, n = d.zs.length := ⟨_, rfl⟩
  have HN0 := Lib.hid hn0
  rw [← hn0] at ht ⊢
  have HT : Hid (∀ x, Q w x → Zns x x.heap.size (.slice A0 n0 c0) d.zs) := Lib.hid (fun x q => ht.on q)
  have CM := Lib.hid (fun (x : World) (q : Q w x) => mayZ_any d (.slice A0 n0 c0) x hd (ht.on q))
  have CA := Lib.hid (fun (x : World) (q : Q w x) => allApart_any d (.slice A0 n0 c0) x hd (ht.on q))
  clear ht
  have HV : Hid (∀ b, mayD d = b → fuelD d n = if b = false ∨ n < -1 then (noDv, 1) else ({ d with fuel := n }, 0)) := Lib.hid (fun b hb => by subst hb; rfl)
  obtain ⟨zs, size, mo, fuel, off, bad⟩ := d
  obtain ⟨RES, hRES⟩ : ∃ r, r = fuelD ⟨zs, size, mo, fuel, off, bad⟩ n := ⟨_, rfl⟩
  rw [← hRES] at HV ⊢
  rw [dvV] at CM CA ⊢
  simp only at HT CM CA HN0 ⊢
  clear hRES hn0 hd
  have b0 := (Bx.new w 24 #[.slice A0 n0 c0, .int .i64 size, .int .i64 mo, .int .i64 fuel, .bool off, .int .i64 bad]).alloc (.cells #[.slice none 0 0, .int .i64 0, .int .i64 0, .int .i64 0, .bool false, .int .i64 0] 24)
  have b1 := Bx.new (w.alloc (.cells #[.slice A0 n0 c0, .int .i64 size, .int .i64 mo, .int .i64 fuel, .bool off, .int .i64 bad] 24)) 24 #[.slice none 0 0, .int .i64 0, .int .i64 0, .int .i64 0, .bool false, .int .i64 0]
  have q0 := ((Q.refl w).alloc (.cells #[.slice A0 n0 c0, .int .i64 size, .int .i64 mo, .int .i64 fuel, .bool off, .int .i64 bad] 24)).alloc (.cells #[.slice none 0 0, .int .i64 0, .int .i64 0, .int .i64 0, .bool false, .int .i64 0] 24)
  have hs0 : ((w.alloc (.cells #[.slice A0 n0 c0, .int .i64 size, .int .i64 mo, .int .i64 fuel, .bool off, .int .i64 bad] 24)).alloc (.cells #[.slice none 0 0, .int .i64 0, .int .i64 0, .int .i64 0, .bool false, .int .i64 0] 24)).heap.size = w.heap.size + 1 + 1 := by simp
  simp only [World.size_alloc] at b1
  obtain ⟨W0, hW0⟩ : ∃ z, z = (w.alloc (.cells #[.slice A0 n0 c0, .int .i64 size, .int .i64 mo, .int .i64 fuel, .bool off, .int .i64 bad] 24)).alloc (.cells #[.slice none 0 0, .int .i64 0, .int .i64 0, .int .i64 0, .bool false, .int .i64 0] 24) := ⟨_, rfl⟩
  rw [← hW0] at b0 b1 q0 hs0
  have BX0 := Lib.hid b0
  have BX1 := Lib.hid b1
  have Q0 := Lib.hid q0
  have HS0 := Lib.hid hs0
  clear b0 b1 q0 hs0
  go_enter Try.func11, Try.ntmps11
  go_upto_region 1 with fail
  rw [← hW0]
  clear hW0
  obtain ⟨x0, x1, x2, x3, x4, x5⟩ : W0.cell? ⟨w.heap.size, 0, none⟩ = some (.slice A0 n0 c0) ∧ W0.cell? ⟨w.heap.size, 1, none⟩ = some (.int .i64 size) ∧ W0.cell? ⟨w.heap.size, 2, none⟩ = some (.int .i64 mo) ∧ W0.cell? ⟨w.heap.size, 3, none⟩ = some (.int .i64 fuel) ∧ W0.cell? ⟨w.heap.size, 4, none⟩ = some (.bool off) ∧ W0.cell? ⟨w.heap.size, 5, none⟩ = some (.int .i64 bad) := ⟨BX0.out.cell 0, BX0.out.cell 1, BX0.out.cell 2, BX0.out.cell 3, BX0.out.cell 4, BX0.out.cell 5⟩
  obtain ⟨mb, hmb⟩ : ∃ b, b = mayD ⟨zs, size, mo, fuel, off, bad⟩ := ⟨_, rfl⟩
  rw [← hmb] at CM
  have HV2 := Lib.hid (HV.out mb hmb.symm)
  clear HV hmb
  have CM1 := Lib.hid (CM.out _ Q0.out)
  cases mb with
  | false =>
    go_wp2_with fail
    refine (CM1.out).mono ?_
    rintro e w6 ⟨rfl, d6⟩
    clear x0 x1 x2 x3 x4 x5
    have b6 := BX1.out.on d6
    have q6 := Q0.out.trans d6
    obtain ⟨g0, g1, g2, g3, g4, g5⟩ : w6.cell? ⟨w.heap.size + 1, 0, none⟩ = some (.slice none 0 0) ∧ w6.cell? ⟨w.heap.size + 1, 1, none⟩ = some (.int .i64 0) ∧ w6.cell? ⟨w.heap.size + 1, 2, none⟩ = some (.int .i64 0) ∧ w6.cell? ⟨w.heap.size + 1, 3, none⟩ = some (.int .i64 0) ∧ w6.cell? ⟨w.heap.size + 1, 4, none⟩ = some (.bool false) ∧ w6.cell? ⟨w.heap.size + 1, 5, none⟩ = some (.int .i64 0) := ⟨b6.cell 0, b6.cell 1, b6.cell 2, b6.cell 3, b6.cell 4, b6.cell 5⟩
    have l0 := b6.frozen 0
    have l1 := b6.frozen 1
    have l2 := b6.frozen 2
    have l3 := b6.frozen 3
    have l4 := b6.frozen 4
    have l5 := b6.frozen 5
    have c9 := ((((((b6.set 0 (.slice none 0 0)).set 1 (.int .i64 0)).set 2 (.int .i64 0)).set 3 (.int .i64 0)).set 4 (.bool false)).set 5 (.int .i64 0))
    have q9 : Q w ((((((w6.setCell ⟨w.heap.size + 1, 0, none⟩ (.slice none 0 0)).setCell ⟨w.heap.size + 1, 1, none⟩ (.int .i64 0)).setCell ⟨w.heap.size + 1, 2, none⟩ (.int .i64 0)).setCell ⟨w.heap.size + 1, 3, none⟩ (.int .i64 0)).setCell ⟨w.heap.size + 1, 4, none⟩ (.bool false)).setCell ⟨w.heap.size + 1, 5, none⟩ (.int .i64 0)) := (Q.set (Q.set (Q.set (Q.set (Q.set (Q.set q6 (by omega) _) (by omega) _) (by omega) _) (by omega) _) (by omega) _) (by omega) _)
    have k9 : ∀ j, j ≠ w.heap.size + 1 → ((((((w6.setCell ⟨w.heap.size + 1, 0, none⟩ (.slice none 0 0)).setCell ⟨w.heap.size + 1, 1, none⟩ (.int .i64 0)).setCell ⟨w.heap.size + 1, 2, none⟩ (.int .i64 0)).setCell ⟨w.heap.size + 1, 3, none⟩ (.int .i64 0)).setCell ⟨w.heap.size + 1, 4, none⟩ (.bool false)).setCell ⟨w.heap.size + 1, 5, none⟩ (.int .i64 0)).heap[j]? = w6.heap[j]? := fun j hne => (heap_set _ _ _ _ hne).trans ( (heap_set _ _ _ _ hne).trans ( (heap_set _ _ _ _ hne).trans ( (heap_set _ _ _ _ hne).trans ( (heap_set _ _ _ _ hne).trans ( heap_set _ _ _ _ hne)))))
    obtain ⟨w9, hw9⟩ : ∃ z, z = ((((((w6.setCell ⟨w.heap.size + 1, 0, none⟩ (.slice none 0 0)).setCell ⟨w.heap.size + 1, 1, none⟩ (.int .i64 0)).setCell ⟨w.heap.size + 1, 2, none⟩ (.int .i64 0)).setCell ⟨w.heap.size + 1, 3, none⟩ (.int .i64 0)).setCell ⟨w.heap.size + 1, 4, none⟩ (.bool false)).setCell ⟨w.heap.size + 1, 5, none⟩ (.int .i64 0)) := ⟨_, rfl⟩
    rw [← hw9] at c9 q9 k9
    simp only [List.setIfInBounds_toArray, List.set_cons_zero, List.set_cons_succ] at c9
    have C9 := Lib.hid c9
    have Q9 := Lib.hid q9
    have K9 := Lib.hid k9
    clear c9 q9 k9
    go_wp2_with fail
    rw [← hw9]
    clear hw9
    obtain ⟨k0, k1, k2, k3, k4, k5⟩ : w9.cell? ⟨w.heap.size + 1, 0, none⟩ = some (.slice none 0 0) ∧ w9.cell? ⟨w.heap.size + 1, 1, none⟩ = some (.int .i64 0) ∧ w9.cell? ⟨w.heap.size + 1, 2, none⟩ = some (.int .i64 0) ∧ w9.cell? ⟨w.heap.size + 1, 3, none⟩ = some (.int .i64 0) ∧ w9.cell? ⟨w.heap.size + 1, 4, none⟩ = some (.bool false) ∧ w9.cell? ⟨w.heap.size + 1, 5, none⟩ = some (.int .i64 0) := ⟨C9.out.cell 0, C9.out.cell 1, C9.out.cell 2, C9.out.cell 3, C9.out.cell 4, C9.out.cell 5⟩
    (try simp only [Exit.inBlock, Exit.then])
    refine bodyPost_ret (v := .tuple #[.agg #[.slice none 0 0, .int .i64 0, .int .i64 0, .int .i64 0, .bool false, .int .i64 0], .int .i64 1]) ?_ rfl ?_
    · rw [results_cell_tmp rfl]
      go_simp
    · rw [HV2.out, if_pos (by simp)]
      exact ⟨.slice none 0 0, rfl, Zns.nil _ _, Q9.out⟩
  | true =>
    by_cases hn : n < -1
    · go_wp2_with fail
      refine (CM1.out).mono ?_
      rintro e w6 ⟨rfl, d6⟩
      clear x0 x1 x2 x3 x4 x5
      have b6 := BX1.out.on d6
      have q6 := Q0.out.trans d6
      obtain ⟨g0, g1, g2, g3, g4, g5⟩ : w6.cell? ⟨w.heap.size + 1, 0, none⟩ = some (.slice none 0 0) ∧ w6.cell? ⟨w.heap.size + 1, 1, none⟩ = some (.int .i64 0) ∧ w6.cell? ⟨w.heap.size + 1, 2, none⟩ = some (.int .i64 0) ∧ w6.cell? ⟨w.heap.size + 1, 3, none⟩ = some (.int .i64 0) ∧ w6.cell? ⟨w.heap.size + 1, 4, none⟩ = some (.bool false) ∧ w6.cell? ⟨w.heap.size + 1, 5, none⟩ = some (.int .i64 0) := ⟨b6.cell 0, b6.cell 1, b6.cell 2, b6.cell 3, b6.cell 4, b6.cell 5⟩
      have l0 := b6.frozen 0
      have l1 := b6.frozen 1
      have l2 := b6.frozen 2
      have l3 := b6.frozen 3
      have l4 := b6.frozen 4
      have l5 := b6.frozen 5
      have c9 := ((((((b6.set 0 (.slice none 0 0)).set 1 (.int .i64 0)).set 2 (.int .i64 0)).set 3 (.int .i64 0)).set 4 (.bool false)).set 5 (.int .i64 0))
      have q9 : Q w ((((((w6.setCell ⟨w.heap.size + 1, 0, none⟩ (.slice none 0 0)).setCell ⟨w.heap.size + 1, 1, none⟩ (.int .i64 0)).setCell ⟨w.heap.size + 1, 2, none⟩ (.int .i64 0)).setCell ⟨w.heap.size + 1, 3, none⟩ (.int .i64 0)).setCell ⟨w.heap.size + 1, 4, none⟩ (.bool false)).setCell ⟨w.heap.size + 1, 5, none⟩ (.int .i64 0)) := (Q.set (Q.set (Q.set (Q.set (Q.set (Q.set q6 (by omega) _) (by omega) _) (by omega) _) (by omega) _) (by omega) _) (by omega) _)
      have k9 : ∀ j, j ≠ w.heap.size + 1 → ((((((w6.setCell ⟨w.heap.size + 1, 0, none⟩ (.slice none 0 0)).setCell ⟨w.heap.size + 1, 1, none⟩ (.int .i64 0)).setCell ⟨w.heap.size + 1, 2, none⟩ (.int .i64 0)).setCell ⟨w.heap.size + 1, 3, none⟩ (.int .i64 0)).setCell ⟨w.heap.size + 1, 4, none⟩ (.bool false)).setCell ⟨w.heap.size + 1, 5, none⟩ (.int .i64 0)).heap[j]? = w6.heap[j]? := fun j hne => (heap_set _ _ _ _ hne).trans ( (heap_set _ _ _ _ hne).trans ( (heap_set _ _ _ _ hne).trans ( (heap_set _ _ _ _ hne).trans ( (heap_set _ _ _ _ hne).trans ( heap_set _ _ _ _ hne)))))
      obtain ⟨w9, hw9⟩ : ∃ z, z = ((((((w6.setCell ⟨w.heap.size + 1, 0, none⟩ (.slice none 0 0)).setCell ⟨w.heap.size + 1, 1, none⟩ (.int .i64 0)).setCell ⟨w.heap.size + 1, 2, none⟩ (.int .i64 0)).setCell ⟨w.heap.size + 1, 3, none⟩ (.int .i64 0)).setCell ⟨w.heap.size + 1, 4, none⟩ (.bool false)).setCell ⟨w.heap.size + 1, 5, none⟩ (.int .i64 0)) := ⟨_, rfl⟩
      rw [← hw9] at c9 q9 k9
      simp only [List.setIfInBounds_toArray, List.set_cons_zero, List.set_cons_succ] at c9
      have C9 := Lib.hid c9
      have Q9 := Lib.hid q9
      have K9 := Lib.hid k9
      clear c9 q9 k9
      go_wp2_with fail
      rw [← hw9]
      clear hw9
      obtain ⟨k0, k1, k2, k3, k4, k5⟩ : w9.cell? ⟨w.heap.size + 1, 0, none⟩ = some (.slice none 0 0) ∧ w9.cell? ⟨w.heap.size + 1, 1, none⟩ = some (.int .i64 0) ∧ w9.cell? ⟨w.heap.size + 1, 2, none⟩ = some (.int .i64 0) ∧ w9.cell? ⟨w.heap.size + 1, 3, none⟩ = some (.int .i64 0) ∧ w9.cell? ⟨w.heap.size + 1, 4, none⟩ = some (.bool false) ∧ w9.cell? ⟨w.heap.size + 1, 5, none⟩ = some (.int .i64 0) := ⟨C9.out.cell 0, C9.out.cell 1, C9.out.cell 2, C9.out.cell 3, C9.out.cell 4, C9.out.cell 5⟩
      (try simp only [Exit.inBlock, Exit.then])
      refine bodyPost_ret (v := .tuple #[.agg #[.slice none 0 0, .int .i64 0, .int .i64 0, .int .i64 0, .bool false, .int .i64 0], .int .i64 1]) ?_ rfl ?_
      · rw [results_cell_tmp rfl]
        go_simp
      · rw [HV2.out, if_pos (.inr hn)]
        exact ⟨.slice none 0 0, rfl, Zns.nil _ _, Q9.out⟩
    · go_wp2_with fail
      refine (CM1.out).mono ?_
      rintro e w5 ⟨rfl, d5⟩
      clear x0 x1 x2 x3 x4 x5
      have D5 := Lib.hid d5
      clear d5
      have CA1 := Lib.hid (CA.out _ (Q0.out.trans D5.out))
      obtain ⟨x0, x1, x2, x3, x4, x5⟩ : w5.cell? ⟨w.heap.size, 0, none⟩ = some (.slice A0 n0 c0) ∧ w5.cell? ⟨w.heap.size, 1, none⟩ = some (.int .i64 size) ∧ w5.cell? ⟨w.heap.size, 2, none⟩ = some (.int .i64 mo) ∧ w5.cell? ⟨w.heap.size, 3, none⟩ = some (.int .i64 fuel) ∧ w5.cell? ⟨w.heap.size, 4, none⟩ = some (.bool off) ∧ w5.cell? ⟨w.heap.size, 5, none⟩ = some (.int .i64 bad) := ⟨(BX0.out.on D5.out).cell 0, (BX0.out.on D5.out).cell 1, (BX0.out.on D5.out).cell 2, (BX0.out.on D5.out).cell 3, (BX0.out.on D5.out).cell 4, (BX0.out.on D5.out).cell 5⟩
      go_wp2_with fail
      refine (CA1.out).mono ?_
      rintro e w6 ⟨R, P, rfl, hR, hP, hok, hz, hf, d6⟩
      clear x0 x1 x2 x3 x4 x5
      rw [dvV]
      simp only at hP ⊢
      rw [← HN0.out]
      have HP := Lib.hid hP
      have HOK := Lib.hid hok
      have HZ := Lib.hid hz
      have HF := Lib.hid hf
      have HR : Hid (w.heap.size + 1 < R) := Lib.hid (by have := D5.out.size; have := HS0.out; omega)
      clear hP hok hz hf hR
      have b6 := BX0.out.on (D5.out.trans d6)
      have b61 := BX1.out.on (D5.out.trans d6)
      have q6 := Q0.out.trans (D5.out.trans d6)
      obtain ⟨x0, x1, x2, x3, x4, x5⟩ : w6.cell? ⟨w.heap.size, 0, none⟩ = some (.slice A0 n0 c0) ∧ w6.cell? ⟨w.heap.size, 1, none⟩ = some (.int .i64 size) ∧ w6.cell? ⟨w.heap.size, 2, none⟩ = some (.int .i64 mo) ∧ w6.cell? ⟨w.heap.size, 3, none⟩ = some (.int .i64 fuel) ∧ w6.cell? ⟨w.heap.size, 4, none⟩ = some (.bool off) ∧ w6.cell? ⟨w.heap.size, 5, none⟩ = some (.int .i64 bad) := ⟨b6.cell 0, b6.cell 1, b6.cell 2, b6.cell 3, b6.cell 4, b6.cell 5⟩
      have l0 := b6.frozen 0
      have l1 := b6.frozen 1
      have l2 := b6.frozen 2
      have l3 := b6.frozen 3
      have l4 := b6.frozen 4
      have l5 := b6.frozen 5
      go_upto_region 4 with fail
      clear x0 x1 x2 x3 x4 x5 l0 l1 l2 l3 l4 l5
      have c_ := ((((((b6.set 0 (.slice (some ⟨R, 0, none⟩) n0 n0)).set 1 (.int .i64 size)).set 2 (.int .i64 mo)).set 3 (.int .i64 fuel)).set 4 (.bool off)).set 5 (.int .i64 bad))
      have q_ : Q w ((((((w6.setCell ⟨w.heap.size, 0, none⟩ (.slice (some ⟨R, 0, none⟩) n0 n0)).setCell ⟨w.heap.size, 1, none⟩ (.int .i64 size)).setCell ⟨w.heap.size, 2, none⟩ (.int .i64 mo)).setCell ⟨w.heap.size, 3, none⟩ (.int .i64 fuel)).setCell ⟨w.heap.size, 4, none⟩ (.bool off)).setCell ⟨w.heap.size, 5, none⟩ (.int .i64 bad)) := (Q.set (Q.set (Q.set (Q.set (Q.set (Q.set q6 (by omega) _) (by omega) _) (by omega) _) (by omega) _) (by omega) _) (by omega) _)
      have k_ : ∀ j, j ≠ w.heap.size → ((((((w6.setCell ⟨w.heap.size, 0, none⟩ (.slice (some ⟨R, 0, none⟩) n0 n0)).setCell ⟨w.heap.size, 1, none⟩ (.int .i64 size)).setCell ⟨w.heap.size, 2, none⟩ (.int .i64 mo)).setCell ⟨w.heap.size, 3, none⟩ (.int .i64 fuel)).setCell ⟨w.heap.size, 4, none⟩ (.bool off)).setCell ⟨w.heap.size, 5, none⟩ (.int .i64 bad)).heap[j]? = w6.heap[j]? := fun j hne => (heap_set _ _ _ _ hne).trans ( (heap_set _ _ _ _ hne).trans ( (heap_set _ _ _ _ hne).trans ( (heap_set _ _ _ _ hne).trans ( (heap_set _ _ _ _ hne).trans ( heap_set _ _ _ _ hne)))))
      obtain ⟨w7, hw7⟩ : ∃ z, z = ((((((w6.setCell ⟨w.heap.size, 0, none⟩ (.slice (some ⟨R, 0, none⟩) n0 n0)).setCell ⟨w.heap.size, 1, none⟩ (.int .i64 size)).setCell ⟨w.heap.size, 2, none⟩ (.int .i64 mo)).setCell ⟨w.heap.size, 3, none⟩ (.int .i64 fuel)).setCell ⟨w.heap.size, 4, none⟩ (.bool off)).setCell ⟨w.heap.size, 5, none⟩ (.int .i64 bad)) := ⟨_, rfl⟩
      rw [← hw7] at c_ q_ k_ ⊢
      clear hw7
      simp only [List.setIfInBounds_toArray, List.set_cons_zero, List.set_cons_succ] at c_
      have Cw7 : Hid (Bx w7 (w.heap.size) 24 #[.slice (some ⟨R, 0, none⟩) n0 n0, .int .i64 size, .int .i64 mo, .int .i64 fuel, .bool off, .int .i64 bad]) := Lib.hid c_
      have Qw7 := Lib.hid q_
      have Kw7 := Lib.hid k_
      clear c_ q_ k_
      have B1 := b61.same (Kw7.out _ (by omega))
      clear b6 b61 q6 d6
      have x_ := Cw7.out.cell 3
      have l_ := Cw7.out.frozen 3
      go_upto_region 5 with fail
      clear x_ l_
      have c_ := Cw7.out.set 3 (.int .i64 n)
      have q_ : Q w (w7.setCell ⟨w.heap.size, 3, none⟩ (.int .i64 n)) := Q.set Qw7.out (by omega) _
      have k_ : ∀ j, j ≠ w.heap.size → (w7.setCell ⟨w.heap.size, 3, none⟩ (.int .i64 n)).heap[j]? = w7.heap[j]? := fun j hne => heap_set _ _ _ _ hne
      obtain ⟨w8, hw8⟩ : ∃ z, z = w7.setCell ⟨w.heap.size, 3, none⟩ (.int .i64 n) := ⟨_, rfl⟩
      rw [← hw8] at c_ q_ k_ ⊢
      clear hw8
      simp only [List.setIfInBounds_toArray, List.set_cons_zero, List.set_cons_succ] at c_
      have Cw8 : Hid (Bx w8 (w.heap.size) 24 #[.slice (some ⟨R, 0, none⟩) n0 n0, .int .i64 size, .int .i64 mo, .int .i64 n, .bool off, .int .i64 bad]) := Lib.hid c_
      have Qw8 := Lib.hid q_
      have Kw8 := Lib.hid k_
      clear c_ q_ k_
      have B2 := B1.same (Kw8.out _ (by omega))
      obtain ⟨x0, x1, x2, x3, x4, x5⟩ : w8.cell? ⟨w.heap.size, 0, none⟩ = some (.slice (some ⟨R, 0, none⟩) n0 n0) ∧ w8.cell? ⟨w.heap.size, 1, none⟩ = some (.int .i64 size) ∧ w8.cell? ⟨w.heap.size, 2, none⟩ = some (.int .i64 mo) ∧ w8.cell? ⟨w.heap.size, 3, none⟩ = some (.int .i64 n) ∧ w8.cell? ⟨w.heap.size, 4, none⟩ = some (.bool off) ∧ w8.cell? ⟨w.heap.size, 5, none⟩ = some (.int .i64 bad) := ⟨Cw8.out.cell 0, Cw8.out.cell 1, Cw8.out.cell 2, Cw8.out.cell 3, Cw8.out.cell 4, Cw8.out.cell 5⟩
      obtain ⟨g0, g1, g2, g3, g4, g5⟩ : w8.cell? ⟨w.heap.size + 1, 0, none⟩ = some (.slice none 0 0) ∧ w8.cell? ⟨w.heap.size + 1, 1, none⟩ = some (.int .i64 0) ∧ w8.cell? ⟨w.heap.size + 1, 2, none⟩ = some (.int .i64 0) ∧ w8.cell? ⟨w.heap.size + 1, 3, none⟩ = some (.int .i64 0) ∧ w8.cell? ⟨w.heap.size + 1, 4, none⟩ = some (.bool false) ∧ w8.cell? ⟨w.heap.size + 1, 5, none⟩ = some (.int .i64 0) := ⟨B2.cell 0, B2.cell 1, B2.cell 2, B2.cell 3, B2.cell 4, B2.cell 5⟩
      have l0 := B2.frozen 0
      have l1 := B2.frozen 1
      have l2 := B2.frozen 2
      have l3 := B2.frozen 3
      have l4 := B2.frozen 4
      have l5 := B2.frozen 5
      have c9 := ((((((B2.set 0 (.slice (some ⟨R, 0, none⟩) n0 n0)).set 1 (.int .i64 size)).set 2 (.int .i64 mo)).set 3 (.int .i64 n)).set 4 (.bool off)).set 5 (.int .i64 bad))
      have q9 : Q w ((((((w8.setCell ⟨w.heap.size + 1, 0, none⟩ (.slice (some ⟨R, 0, none⟩) n0 n0)).setCell ⟨w.heap.size + 1, 1, none⟩ (.int .i64 size)).setCell ⟨w.heap.size + 1, 2, none⟩ (.int .i64 mo)).setCell ⟨w.heap.size + 1, 3, none⟩ (.int .i64 n)).setCell ⟨w.heap.size + 1, 4, none⟩ (.bool off)).setCell ⟨w.heap.size + 1, 5, none⟩ (.int .i64 bad)) := (Q.set (Q.set (Q.set (Q.set (Q.set (Q.set Qw8.out (by omega) _) (by omega) _) (by omega) _) (by omega) _) (by omega) _) (by omega) _)
      have k9 : ∀ j, j ≠ w.heap.size + 1 → ((((((w8.setCell ⟨w.heap.size + 1, 0, none⟩ (.slice (some ⟨R, 0, none⟩) n0 n0)).setCell ⟨w.heap.size + 1, 1, none⟩ (.int .i64 size)).setCell ⟨w.heap.size + 1, 2, none⟩ (.int .i64 mo)).setCell ⟨w.heap.size + 1, 3, none⟩ (.int .i64 n)).setCell ⟨w.heap.size + 1, 4, none⟩ (.bool off)).setCell ⟨w.heap.size + 1, 5, none⟩ (.int .i64 bad)).heap[j]? = w8.heap[j]? := fun j hne => (heap_set _ _ _ _ hne).trans ( (heap_set _ _ _ _ hne).trans ( (heap_set _ _ _ _ hne).trans ( (heap_set _ _ _ _ hne).trans ( (heap_set _ _ _ _ hne).trans ( heap_set _ _ _ _ hne)))))
      obtain ⟨w9, hw9⟩ : ∃ z, z = ((((((w8.setCell ⟨w.heap.size + 1, 0, none⟩ (.slice (some ⟨R, 0, none⟩) n0 n0)).setCell ⟨w.heap.size + 1, 1, none⟩ (.int .i64 size)).setCell ⟨w.heap.size + 1, 2, none⟩ (.int .i64 mo)).setCell ⟨w.heap.size + 1, 3, none⟩ (.int .i64 n)).setCell ⟨w.heap.size + 1, 4, none⟩ (.bool off)).setCell ⟨w.heap.size + 1, 5, none⟩ (.int .i64 bad)) := ⟨_, rfl⟩
      rw [← hw9] at c9 q9 k9
      simp only [List.setIfInBounds_toArray, List.set_cons_zero, List.set_cons_succ] at c9
      have C9 := Lib.hid c9
      have Q9 := Lib.hid q9
      have K9 := Lib.hid k9
      clear c9 q9 k9
      go_wp2_with fail
      rw [← hw9]
      clear hw9
      obtain ⟨k0, k1, k2, k3, k4, k5⟩ : w9.cell? ⟨w.heap.size + 1, 0, none⟩ = some (.slice (some ⟨R, 0, none⟩) n0 n0) ∧ w9.cell? ⟨w.heap.size + 1, 1, none⟩ = some (.int .i64 size) ∧ w9.cell? ⟨w.heap.size + 1, 2, none⟩ = some (.int .i64 mo) ∧ w9.cell? ⟨w.heap.size + 1, 3, none⟩ = some (.int .i64 n) ∧ w9.cell? ⟨w.heap.size + 1, 4, none⟩ = some (.bool off) ∧ w9.cell? ⟨w.heap.size + 1, 5, none⟩ = some (.int .i64 bad) := ⟨C9.out.cell 0, C9.out.cell 1, C9.out.cell 2, C9.out.cell 3, C9.out.cell 4, C9.out.cell 5⟩
      (try simp only [Exit.inBlock, Exit.then])
      refine bodyPost_ret (v := .tuple #[.agg #[.slice (some ⟨R, 0, none⟩) n0 n0, .int .i64 size, .int .i64 mo, .int .i64 n, .bool off, .int .i64 bad], .int .i64 0]) ?_ rfl ?_
      · rw [results_cell_tmp rfl]
        go_simp
      · rw [HV2.out, if_neg (by simp [hn])]
        have hk : ∀ j, R ≤ j → w9.heap[j]? = w6.heap[j]? := fun j hj => by
          have := HR.out
          rw [K9.out j (by omega), Kw8.out j (by omega), Kw7.out j (by omega)]
        have := fr_zns (w := w9) (Bx.same HZ.out (hk R (Nat.le_refl _))) (HF.out.keep fun j hj => hk j (by omega)) HOK.out HP.out
        rw [← HN0.out] at this
        exact ⟨_, rfl, this, Q9.out⟩
/-- What Read comes to: the blocks, and the error's number. -/
def readD (d : Dv) (z : Int) : List ByteArray × Nat := if mayD d = false then ([], 1) else if hasZ d z then (if d.off = true then ([], 10) else ((atZn d z.toNat).b, 0)) else ([], 12)
set_option maxHeartbeats 8000000 in
theorem readZ_any (d : Dv) (u : Value) (z : Int) (w : World) (hd : smD d) (ht : Zns w w.heap.size u d.zs) : Calls Try.prog 10 #[dvV d u, .int .i64 z] w fun e w' => ∃ v, e = .returned (.tuple #[v, .int .i64 ((readD d z).2 : Nat)]) ∧ Blks w' w'.heap.size v (readD d z).1 ∧ Q w w' := by
  obtain ⟨A0, c0, rfl⟩ := ht.form
  obtain ⟨n0, hn0⟩ : ∃ n, n = d.zs.length := ⟨_, rfl⟩
  have HN0 := Lib.hid hn0
  rw [← hn0] at ht ⊢
  have HT : Hid (∀ x, Q w x → Zns x x.heap.size (.slice A0 n0 c0) d.zs) := Lib.hid (fun x q => ht.on q)
  have CM := Lib.hid (fun (x : World) (q : Q w x) => mayZ_any d (.slice A0 n0 c0) x hd (ht.on q))
  clear ht
  have HR : Hid (readD d z = if mayD d = false then ([], 1) else if hasZ d z then (if d.off = true then ([], 10) else ((atZn d z.toNat).b, 0)) else ([], 12)) := Lib.hid rfl
  have CH := Lib.hid (fun (x : World) => hasZ_any d z A0 c0 x)
  rw [← hn0] at CH
  have HB : Hid (∀ z ∈ d.zs, z.b.length ≤ 100000) := Lib.hid hd.2
  have HZ : Hid (hasZ d z → ∃ h : z.toNat < d.zs.length, z = (z.toNat : Int) ∧ atZn d z.toNat = d.zs[z.toNat]) := Lib.hid (fun h => ⟨by have h1 := h.1; have h2 := h.2; omega, by have h1 := h.1; omega, atZn_is (by have h1 := h.1; have h2 := h.2; omega)⟩)
  obtain ⟨RES, hRES⟩ : ∃ r, r = readD d z := ⟨_, rfl⟩
  rw [← hRES] at HR ⊢
  obtain ⟨mb, hmb⟩ : ∃ b, b = mayD d := ⟨_, rfl⟩
  rw [← hmb] at CM HR
  clear hmb hRES
  obtain ⟨zs, size, mo, fuel, off, bad⟩ := d
  rw [dvV] at CM CH ⊢
  simp only at HT CM HN0 CH HR HB HZ ⊢
  clear hn0 hd
  have b0 := Bx.new w 24 #[.slice A0 n0 c0, .int .i64 size, .int .i64 mo, .int .i64 fuel, .bool off, .int .i64 bad]
  have q0 := (Q.refl w).alloc (.cells #[.slice A0 n0 c0, .int .i64 size, .int .i64 mo, .int .i64 fuel, .bool off, .int .i64 bad] 24)
  obtain ⟨W0, hW0⟩ : ∃ z, z = w.alloc (.cells #[.slice A0 n0 c0, .int .i64 size, .int .i64 mo, .int .i64 fuel, .bool off, .int .i64 bad] 24) := ⟨_, rfl⟩
  rw [← hW0] at b0 q0
  have BX0 := Lib.hid b0
  have Q0 := Lib.hid q0
  clear b0 q0
  go_enter Try.func10, Try.ntmps10
  go_upto_region 1 with fail
  rw [← hW0]
  clear hW0
  obtain ⟨x0, x1, x2, x3, x4, x5⟩ : W0.cell? ⟨w.heap.size, 0, none⟩ = some (.slice A0 n0 c0) ∧ W0.cell? ⟨w.heap.size, 1, none⟩ = some (.int .i64 size) ∧ W0.cell? ⟨w.heap.size, 2, none⟩ = some (.int .i64 mo) ∧ W0.cell? ⟨w.heap.size, 3, none⟩ = some (.int .i64 fuel) ∧ W0.cell? ⟨w.heap.size, 4, none⟩ = some (.bool off) ∧ W0.cell? ⟨w.heap.size, 5, none⟩ = some (.int .i64 bad) := ⟨BX0.out.cell 0, BX0.out.cell 1, BX0.out.cell 2, BX0.out.cell 3, BX0.out.cell 4, BX0.out.cell 5⟩
  have CM1 := Lib.hid (CM.out _ Q0.out)
  cases mb with
  | false =>
    have HV : Hid (RES = ([], 1)) := Lib.hid (by rw [HR.out, if_pos rfl])
    clear HR
    go_wp2_with fail
    refine (CM1.out).mono ?_
    rintro e w6 ⟨rfl, d6⟩
    go_wp2
    go_ret2
    exact ⟨.slice none 0 0, by rw [HV.out]; rfl, by rw [HV.out]; exact Blks.nil _ _, Q0.out.trans d6⟩
  | true =>
    go_wp2_with fail
    refine (CM1.out).mono ?_
    rintro e w5 ⟨rfl, d5⟩
    clear x0 x1 x2 x3 x4 x5
    obtain ⟨x0, x1, x2, x3, x4, x5⟩ : w5.cell? ⟨w.heap.size, 0, none⟩ = some (.slice A0 n0 c0) ∧ w5.cell? ⟨w.heap.size, 1, none⟩ = some (.int .i64 size) ∧ w5.cell? ⟨w.heap.size, 2, none⟩ = some (.int .i64 mo) ∧ w5.cell? ⟨w.heap.size, 3, none⟩ = some (.int .i64 fuel) ∧ w5.cell? ⟨w.heap.size, 4, none⟩ = some (.bool off) ∧ w5.cell? ⟨w.heap.size, 5, none⟩ = some (.int .i64 bad) := ⟨(BX0.out.on d5).cell 0, (BX0.out.on d5).cell 1, (BX0.out.on d5).cell 2, (BX0.out.on d5).cell 3, (BX0.out.on d5).cell 4, (BX0.out.on d5).cell 5⟩
    have D5 := Lib.hid d5
    clear d5
    by_cases hz : hasZ ⟨zs, size, mo, fuel, off, bad⟩ z
    · have hz' : decide (hasZ ⟨zs, size, mo, fuel, off, bad⟩ z) = true := by simpa using hz
      rw [hz'] at CH
      cases off with
      | true =>
        have HV : Hid (RES = ([], 10)) := Lib.hid (by rw [HR.out, if_neg (by simp), if_pos hz]; rfl)
        clear HR HZ hz hz'
        go_wp2_with fail
        refine (CH.out _).mono ?_
        rintro e w6 ⟨rfl, d6⟩
        clear x0 x1 x2 x3 x4 x5
        have x4 := (BX0.out.on (D5.out.trans d6)).cell 4
        go_wp2
        go_ret2
        exact ⟨.slice none 0 0, by rw [HV.out]; rfl, by rw [HV.out]; exact Blks.nil _ _, Q0.out.trans (D5.out.trans d6)⟩
      | false =>
        obtain ⟨hlt, hzz, hat⟩ := HZ.out hz
        have HV : Hid (RES = (zs[z.toNat].b, 0)) := Lib.hid (by rw [HR.out, if_neg (by simp), if_pos hz, ← hat]; rfl)
        have hbl := HB.out _ (List.getElem_mem hlt)
        clear HR HZ hz hz' hat
        obtain ⟨k, hk⟩ : ∃ k, k = z.toNat := ⟨_, rfl⟩
        rw [← hk] at hzz
        have HV2 : Hid (∃ h : k < zs.length, RES = (zs[k].b, 0) ∧ zs[k].b.length ≤ 100000) := Lib.hid ⟨by omega, by subst hk; exact HV.out, by subst hk; exact hbl⟩
        have hkl : k < zs.length := by omega
        clear HV hbl hk hlt
        subst hzz
        have hkn : (k : Int) < (n0 : Int) := by have := HN0.out; omega
        go_wp2_with fail
        refine (CH.out _).mono ?_
        rintro e w6 ⟨rfl, d6⟩
        clear x0 x1 x2 x3 x4 x5
        have x4 := (BX0.out.on (D5.out.trans d6)).cell 4
        have x0 := (BX0.out.on (D5.out.trans d6)).cell 0
        have q6 := Q0.out.trans (D5.out.trans d6)
        obtain ⟨h9, hRES, hbl⟩ := HV2.out
        obtain ⟨a, c1, A1, n1, e1, ha, -, hat⟩ := (HT.out w (Q.refl w)).pick k hkl
        injection e1 with e1 e2 e3
        subst e1
        obtain ⟨z0, -, -, hbk⟩ := hat w6 q6
        have C := Lib.hid (apartZ_any zs[k].b _ w6 hbl hbk)
        have HRES := Lib.hid hRES
        obtain ⟨y, hy⟩ : ∃ y, y = zs[k].b := ⟨_, rfl⟩
        rw [← hy] at z0 C HRES
        have Q6 := Lib.hid q6
        clear hat hbk hbl hRES hy q6 h9 d6
        go_wp2_with fail
        refine (C.out).mono ?_
        rintro e w7 ⟨v7, g7, rfl, t7, hg7, hg8, d7⟩
        have T7 := Lib.hid t7
        clear t7 hg7 
        go_wp2
        go_ret2
        exact ⟨v7, by rw [HRES.out]; rfl, by rw [HRES.out]; exact T7.out.blks.more (Bx.lt T7.out.2), Q6.out.trans d7⟩
    · have hz' : decide (hasZ ⟨zs, size, mo, fuel, off, bad⟩ z) = false := by simpa using hz
      rw [hz'] at CH
      have HV : Hid (RES = ([], 12)) := Lib.hid (by rw [HR.out, if_neg (by simp), if_neg hz])
      clear HR HZ hz hz'
      go_wp2_with fail
      refine (CH.out _).mono ?_
      rintro e w6 ⟨rfl, d6⟩
      go_wp2
      go_ret2
      exact ⟨.slice none 0 0, by rw [HV.out]; rfl, by rw [HV.out]; exact Blks.nil _ _, Q0.out.trans (D5.out.trans d6)⟩
end Go.Proofs.Yteoondmakdghhaa

namespace Go.Proofs.Yteoondmakdghhaa
set_option maxRecDepth 100000
open Go.ChangeShapes Go.WideShapes Go.ChangeAt Go.RowKit
set_option linter.unusedVariables false
set_option linter.unusedSimpArgs false
set_option maxRecDepth 100000
/-- The first i are done. -/
def stepP {α : Type} (f : α → α) (P : List α) (i : Nat) : List α := (P.take i).map f ++ P.drop i
theorem stepP_len {α : Type} (f : α → α) (P : List α) (i : Nat) : (stepP f P i).length = P.length := by unfold stepP; rw [List.length_append, List.length_map, List.length_take, List.length_drop]; omega
theorem stepP_get {α : Type} (f : α → α) (P : List α) (i : Nat) (h : i < P.length) : (stepP f P i)[i]'(by rw [stepP_len]; exact h) = P[i] := by
  unfold stepP
  rw [List.getElem_append_right (by rw [List.length_map, List.length_take]; omega)]
  simp only [List.length_map, List.length_take, List.getElem_drop]
  congr 1
  omega
theorem stepP_set {α : Type} (f : α → α) (P : List α) (i : Nat) (h : i < P.length) : (stepP f P i).set i (f P[i]) = stepP f P (i + 1) := by
  unfold stepP
  have hl : ((P.take i).map f).length = i := by rw [List.length_map, List.length_take]; omega
  rw [List.set_append_right _ _ (by omega), hl, Nat.sub_self, List.drop_eq_getElem_cons h, List.set_cons_zero, List.take_succ_eq_append_getElem h, List.map_append]
  simp
theorem stepP_end {α : Type} (f : α → α) (P : List α) : stepP f P P.length = P.map f := by unfold stepP; simp
def firmP (p : Zn × Value) : Zn × Value := (firmZ p.1, p.2)
set_option maxHeartbeats 8000000 in
theorem fluZ_any (d : Dv) (u : Value) (w : World) (hd : smD d) (hb : okN d) (ht : Zns w w.heap.size u d.zs) : Calls Try.prog 22 #[dvV d u] w (DevC (fluD d) w) := by
  obtain ⟨A0, c0, rfl⟩ := ht.form
  obtain ⟨n0, hn0⟩ : ∃ n, n = d.zs.length := ⟨_, rfl⟩
  have HN0 := Lib.hid hn0
  rw [← hn0] at ht ⊢
  have HT : Hid (∀ x, Q w x → Zns x x.heap.size (.slice A0 n0 c0) d.zs) := Lib.hid (fun x q => ht.on q)
  have CM := Lib.hid (fun (x : World) (q : Q w x) => mayZ_any d (.slice A0 n0 c0) x hd (ht.on q))
  have CA := Lib.hid (fun (x : World) (q : Q w x) => allApart_any d (.slice A0 n0 c0) x hd (ht.on q))
  clear ht
  have HV : Hid (fluD d = if mayD d = false then (noDv, 1) else if (burnD d).2 = true then ({ (burnD d).1 with zs := d.zs.map firmZ }, 0) else ((burnD d).1, 10)) := Lib.hid rfl
  have CB := Lib.hid (fun (x : World) (R : Nat) (h : mayD d = true) => burnZ_any d (some ⟨R, 0, none⟩) n0 n0 x hb (mayD_iff.1 h).2.2.2.2.2.1)
  have HBZ := Lib.hid (burn_zs d)
  obtain ⟨RES, hRES⟩ : ∃ r, r = fluD d := ⟨_, rfl⟩
  rw [← hRES] at HV ⊢
  obtain ⟨B, hB⟩ : ∃ r, r = burnD d := ⟨_, rfl⟩
  rw [← hB] at HV CB HBZ
  obtain ⟨may, hmay⟩ : ∃ b, b = mayD d := ⟨_, rfl⟩
  rw [← hmay] at HV CB CM
  have hl : n0 ≤ 100000 := by rw [hn0]; exact hd.1
  clear hRES hB hmay hb
  obtain ⟨zs, size, mo, fuel, off, bad⟩ := d
  obtain ⟨⟨zb, sb, mb, fb, ob, bb⟩, on⟩ := B
  rw [dvV] at CM CA ⊢
  simp only at HT CM CA HN0 HV CB HBZ ⊢
  unfold dvV at CB
  simp only at CB
  clear hn0 hd
  have b0 := (Bx.new w 24 #[.slice A0 n0 c0, .int .i64 size, .int .i64 mo, .int .i64 fuel, .bool off, .int .i64 bad]).alloc (.cells #[.slice none 0 0, .int .i64 0, .int .i64 0, .int .i64 0, .bool false, .int .i64 0] 24)
  have b1 := Bx.new (w.alloc (.cells #[.slice A0 n0 c0, .int .i64 size, .int .i64 mo, .int .i64 fuel, .bool off, .int .i64 bad] 24)) 24 #[.slice none 0 0, .int .i64 0, .int .i64 0, .int .i64 0, .bool false, .int .i64 0]
  have q0 := ((Q.refl w).alloc (.cells #[.slice A0 n0 c0, .int .i64 size, .int .i64 mo, .int .i64 fuel, .bool off, .int .i64 bad] 24)).alloc (.cells #[.slice none 0 0, .int .i64 0, .int .i64 0, .int .i64 0, .bool false, .int .i64 0] 24)
  have hs0 : ((w.alloc (.cells #[.slice A0 n0 c0, .int .i64 size, .int .i64 mo, .int .i64 fuel, .bool off, .int .i64 bad] 24)).alloc (.cells #[.slice none 0 0, .int .i64 0, .int .i64 0, .int .i64 0, .bool false, .int .i64 0] 24)).heap.size = w.heap.size + 1 + 1 := by simp
  simp only [World.size_alloc] at b1
  obtain ⟨W0, hW0⟩ : ∃ z, z = (w.alloc (.cells #[.slice A0 n0 c0, .int .i64 size, .int .i64 mo, .int .i64 fuel, .bool off, .int .i64 bad] 24)).alloc (.cells #[.slice none 0 0, .int .i64 0, .int .i64 0, .int .i64 0, .bool false, .int .i64 0] 24) := ⟨_, rfl⟩
  rw [← hW0] at b0 b1 q0 hs0
  have BX0 := Lib.hid b0
  have BX1 := Lib.hid b1
  have Q0 := Lib.hid q0
  have HS0 := Lib.hid hs0
  clear b0 b1 q0 hs0
  go_enter Try.func22, Try.ntmps22
  go_upto_region 1 with fail
  rw [← hW0]
  clear hW0
  obtain ⟨x0, x1, x2, x3, x4, x5⟩ : W0.cell? ⟨w.heap.size, 0, none⟩ = some (.slice A0 n0 c0) ∧ W0.cell? ⟨w.heap.size, 1, none⟩ = some (.int .i64 size) ∧ W0.cell? ⟨w.heap.size, 2, none⟩ = some (.int .i64 mo) ∧ W0.cell? ⟨w.heap.size, 3, none⟩ = some (.int .i64 fuel) ∧ W0.cell? ⟨w.heap.size, 4, none⟩ = some (.bool off) ∧ W0.cell? ⟨w.heap.size, 5, none⟩ = some (.int .i64 bad) := ⟨BX0.out.cell 0, BX0.out.cell 1, BX0.out.cell 2, BX0.out.cell 3, BX0.out.cell 4, BX0.out.cell 5⟩
  have CM1 := Lib.hid (CM.out _ Q0.out)
  cases may with
  | false =>
    have HV2 : Hid (RES = (noDv, 1)) := Lib.hid (by rw [HV.out, if_pos rfl])
    clear HV
    go_wp2_with fail
    refine (CM1.out).mono ?_
    rintro e w6 ⟨rfl, d6⟩
    clear x0 x1 x2 x3 x4 x5
    have b6 := BX1.out.on d6
    have q6 := Q0.out.trans d6
    obtain ⟨g0, g1, g2, g3, g4, g5⟩ : w6.cell? ⟨w.heap.size + 1, 0, none⟩ = some (.slice none 0 0) ∧ w6.cell? ⟨w.heap.size + 1, 1, none⟩ = some (.int .i64 0) ∧ w6.cell? ⟨w.heap.size + 1, 2, none⟩ = some (.int .i64 0) ∧ w6.cell? ⟨w.heap.size + 1, 3, none⟩ = some (.int .i64 0) ∧ w6.cell? ⟨w.heap.size + 1, 4, none⟩ = some (.bool false) ∧ w6.cell? ⟨w.heap.size + 1, 5, none⟩ = some (.int .i64 0) := ⟨b6.cell 0, b6.cell 1, b6.cell 2, b6.cell 3, b6.cell 4, b6.cell 5⟩
    have l0 := b6.frozen 0
    have l1 := b6.frozen 1
    have l2 := b6.frozen 2
    have l3 := b6.frozen 3
    have l4 := b6.frozen 4
    have l5 := b6.frozen 5
    have c9 := ((((((b6.set 0 (.slice none 0 0)).set 1 (.int .i64 0)).set 2 (.int .i64 0)).set 3 (.int .i64 0)).set 4 (.bool false)).set 5 (.int .i64 0))
    have q9 : Q w ((((((w6.setCell ⟨w.heap.size + 1, 0, none⟩ (.slice none 0 0)).setCell ⟨w.heap.size + 1, 1, none⟩ (.int .i64 0)).setCell ⟨w.heap.size + 1, 2, none⟩ (.int .i64 0)).setCell ⟨w.heap.size + 1, 3, none⟩ (.int .i64 0)).setCell ⟨w.heap.size + 1, 4, none⟩ (.bool false)).setCell ⟨w.heap.size + 1, 5, none⟩ (.int .i64 0)) := (Q.set (Q.set (Q.set (Q.set (Q.set (Q.set q6 (by omega) _) (by omega) _) (by omega) _) (by omega) _) (by omega) _) (by omega) _)
    have k9 : ∀ j, j ≠ w.heap.size + 1 → ((((((w6.setCell ⟨w.heap.size + 1, 0, none⟩ (.slice none 0 0)).setCell ⟨w.heap.size + 1, 1, none⟩ (.int .i64 0)).setCell ⟨w.heap.size + 1, 2, none⟩ (.int .i64 0)).setCell ⟨w.heap.size + 1, 3, none⟩ (.int .i64 0)).setCell ⟨w.heap.size + 1, 4, none⟩ (.bool false)).setCell ⟨w.heap.size + 1, 5, none⟩ (.int .i64 0)).heap[j]? = w6.heap[j]? := fun j hne => (heap_set _ _ _ _ hne).trans ( (heap_set _ _ _ _ hne).trans ( (heap_set _ _ _ _ hne).trans ( (heap_set _ _ _ _ hne).trans ( (heap_set _ _ _ _ hne).trans ( heap_set _ _ _ _ hne)))))
    obtain ⟨w9, hw9⟩ : ∃ z, z = ((((((w6.setCell ⟨w.heap.size + 1, 0, none⟩ (.slice none 0 0)).setCell ⟨w.heap.size + 1, 1, none⟩ (.int .i64 0)).setCell ⟨w.heap.size + 1, 2, none⟩ (.int .i64 0)).setCell ⟨w.heap.size + 1, 3, none⟩ (.int .i64 0)).setCell ⟨w.heap.size + 1, 4, none⟩ (.bool false)).setCell ⟨w.heap.size + 1, 5, none⟩ (.int .i64 0)) := ⟨_, rfl⟩
    rw [← hw9] at c9 q9 k9
    simp only [List.setIfInBounds_toArray, List.set_cons_zero, List.set_cons_succ] at c9
    have C9 := Lib.hid c9
    have Q9 := Lib.hid q9
    have K9 := Lib.hid k9
    clear c9 q9 k9
    go_wp2_with fail
    rw [← hw9]
    clear hw9
    obtain ⟨k0, k1, k2, k3, k4, k5⟩ : w9.cell? ⟨w.heap.size + 1, 0, none⟩ = some (.slice none 0 0) ∧ w9.cell? ⟨w.heap.size + 1, 1, none⟩ = some (.int .i64 0) ∧ w9.cell? ⟨w.heap.size + 1, 2, none⟩ = some (.int .i64 0) ∧ w9.cell? ⟨w.heap.size + 1, 3, none⟩ = some (.int .i64 0) ∧ w9.cell? ⟨w.heap.size + 1, 4, none⟩ = some (.bool false) ∧ w9.cell? ⟨w.heap.size + 1, 5, none⟩ = some (.int .i64 0) := ⟨C9.out.cell 0, C9.out.cell 1, C9.out.cell 2, C9.out.cell 3, C9.out.cell 4, C9.out.cell 5⟩
    (try simp only [Exit.inBlock, Exit.then])
    refine bodyPost_ret (v := .tuple #[.agg #[.slice none 0 0, .int .i64 0, .int .i64 0, .int .i64 0, .bool false, .int .i64 0], .int .i64 1]) ?_ rfl ?_
    · rw [results_cell_tmp rfl]
      go_simp
    · rw [HV2.out]
      exact ⟨.slice none 0 0, rfl, Zns.nil _ _, Q9.out⟩
  | true =>
    have CB2 := Lib.hid (fun (x : World) (R : Nat) => CB.out x R rfl)
    clear CB
    go_wp2_with fail
    refine (CM1.out).mono ?_
    rintro e w5 ⟨rfl, d5⟩
    clear x0 x1 x2 x3 x4 x5
    have D5 := Lib.hid d5
    clear d5
    have CA1 := Lib.hid (CA.out _ (Q0.out.trans D5.out))
    obtain ⟨x0, x1, x2, x3, x4, x5⟩ : w5.cell? ⟨w.heap.size, 0, none⟩ = some (.slice A0 n0 c0) ∧ w5.cell? ⟨w.heap.size, 1, none⟩ = some (.int .i64 size) ∧ w5.cell? ⟨w.heap.size, 2, none⟩ = some (.int .i64 mo) ∧ w5.cell? ⟨w.heap.size, 3, none⟩ = some (.int .i64 fuel) ∧ w5.cell? ⟨w.heap.size, 4, none⟩ = some (.bool off) ∧ w5.cell? ⟨w.heap.size, 5, none⟩ = some (.int .i64 bad) := ⟨(BX0.out.on D5.out).cell 0, (BX0.out.on D5.out).cell 1, (BX0.out.on D5.out).cell 2, (BX0.out.on D5.out).cell 3, (BX0.out.on D5.out).cell 4, (BX0.out.on D5.out).cell 5⟩
    go_wp2_with fail
    refine (CA1.out).mono ?_
    rintro e w6 ⟨R, P, rfl, hR, hP, hok, hz, hf, d6⟩
    clear x0 x1 x2 x3 x4 x5
    rw [dvV]
    simp only at hP ⊢
    rw [← HN0.out]
    have HP := Lib.hid hP
    have HOK := Lib.hid hok
    have HZ := Lib.hid hz
    have HF := Lib.hid hf
    have HR : Hid (w.heap.size + 1 < R) := Lib.hid (by have := D5.out.size; have := HS0.out; omega)
    have D6 := Lib.hid (D5.out.trans d6)
    clear hP hok hz hf hR d6
    go_wp2_with fail
    refine (CB2.out _ R).mono ?_
    rintro e w6b ⟨rfl, d6b⟩
    have HZ := Lib.hid (Bx.on HZ.out d6b)
    have HF : Hid (Fr w6b R P P.length) := Lib.hid (fun i p hi hp => by
      obtain ⟨g, t, r, f⟩ := HF.out i p hi hp
      exact ⟨g, t.on d6b, r, f⟩)
    have b6 := BX0.out.on (D6.out.trans d6b)
    have b61 := BX1.out.on (D6.out.trans d6b)
    have q6 := Q0.out.trans (D6.out.trans d6b)
    obtain ⟨a, ha⟩ : ∃ a : Addr, a = ⟨R, 0, none⟩ := ⟨_, rfl⟩
    rw [← ha]
    have HA := Lib.hid ha
    clear ha d6b
    obtain ⟨x0, x1, x2, x3, x4, x5⟩ : w6b.cell? ⟨w.heap.size, 0, none⟩ = some (.slice A0 n0 c0) ∧ w6b.cell? ⟨w.heap.size, 1, none⟩ = some (.int .i64 size) ∧ w6b.cell? ⟨w.heap.size, 2, none⟩ = some (.int .i64 mo) ∧ w6b.cell? ⟨w.heap.size, 3, none⟩ = some (.int .i64 fuel) ∧ w6b.cell? ⟨w.heap.size, 4, none⟩ = some (.bool off) ∧ w6b.cell? ⟨w.heap.size, 5, none⟩ = some (.int .i64 bad) := ⟨b6.cell 0, b6.cell 1, b6.cell 2, b6.cell 3, b6.cell 4, b6.cell 5⟩
    have l0 := b6.frozen 0
    have l1 := b6.frozen 1
    have l2 := b6.frozen 2
    have l3 := b6.frozen 3
    have l4 := b6.frozen 4
    have l5 := b6.frozen 5
    go_upto_region 4 with fail
    clear x0 x1 x2 x3 x4 x5 l0 l1 l2 l3 l4 l5
    have c_ := ((((((b6.set 0 (.slice (some a) n0 n0)).set 1 (.int .i64 sb)).set 2 (.int .i64 mb)).set 3 (.int .i64 fb)).set 4 (.bool ob)).set 5 (.int .i64 bb))
    have q_ : Q w ((((((w6b.setCell ⟨w.heap.size, 0, none⟩ (.slice (some a) n0 n0)).setCell ⟨w.heap.size, 1, none⟩ (.int .i64 sb)).setCell ⟨w.heap.size, 2, none⟩ (.int .i64 mb)).setCell ⟨w.heap.size, 3, none⟩ (.int .i64 fb)).setCell ⟨w.heap.size, 4, none⟩ (.bool ob)).setCell ⟨w.heap.size, 5, none⟩ (.int .i64 bb)) := (Q.set (Q.set (Q.set (Q.set (Q.set (Q.set q6 (by omega) _) (by omega) _) (by omega) _) (by omega) _) (by omega) _) (by omega) _)
    have k_ : ∀ j, j ≠ w.heap.size → ((((((w6b.setCell ⟨w.heap.size, 0, none⟩ (.slice (some a) n0 n0)).setCell ⟨w.heap.size, 1, none⟩ (.int .i64 sb)).setCell ⟨w.heap.size, 2, none⟩ (.int .i64 mb)).setCell ⟨w.heap.size, 3, none⟩ (.int .i64 fb)).setCell ⟨w.heap.size, 4, none⟩ (.bool ob)).setCell ⟨w.heap.size, 5, none⟩ (.int .i64 bb)).heap[j]? = w6b.heap[j]? := fun j hne => (heap_set _ _ _ _ hne).trans ( (heap_set _ _ _ _ hne).trans ( (heap_set _ _ _ _ hne).trans ( (heap_set _ _ _ _ hne).trans ( (heap_set _ _ _ _ hne).trans ( heap_set _ _ _ _ hne)))))
    obtain ⟨w7, hw7⟩ : ∃ z, z = ((((((w6b.setCell ⟨w.heap.size, 0, none⟩ (.slice (some a) n0 n0)).setCell ⟨w.heap.size, 1, none⟩ (.int .i64 sb)).setCell ⟨w.heap.size, 2, none⟩ (.int .i64 mb)).setCell ⟨w.heap.size, 3, none⟩ (.int .i64 fb)).setCell ⟨w.heap.size, 4, none⟩ (.bool ob)).setCell ⟨w.heap.size, 5, none⟩ (.int .i64 bb)) := ⟨_, rfl⟩
    rw [← hw7] at c_ q_ k_ ⊢
    clear hw7
    simp only [List.setIfInBounds_toArray, List.set_cons_zero, List.set_cons_succ] at c_
    have Cw7 : Hid (Bx w7 (w.heap.size) 24 #[.slice (some a) n0 n0, .int .i64 sb, .int .i64 mb, .int .i64 fb, .bool ob, .int .i64 bb]) := Lib.hid c_
    have Qw7 := Lib.hid q_
    have Kw7 := Lib.hid k_
    clear c_ q_ k_
    have B1 := Lib.hid (b61.same (Kw7.out _ (by omega)))
    have HZ7 : Hid (ZB w7 R P) := Lib.hid (Bx.same HZ.out (Kw7.out _ (by have := HR.out; omega)))
    have HF7 : Hid (Fr w7 R P P.length) := Lib.hid (HF.out.keep (fun j hj => Kw7.out j (by have := HR.out; omega)))
    have hPn : P.length = n0 := by rw [HN0.out, ← HP.out, List.length_map]
    clear b6 b61 q6 HZ HF Kw7
    obtain ⟨x0, x1, x2, x3, x4, x5⟩ : w7.cell? ⟨w.heap.size, 0, none⟩ = some (.slice (some a) n0 n0) ∧ w7.cell? ⟨w.heap.size, 1, none⟩ = some (.int .i64 sb) ∧ w7.cell? ⟨w.heap.size, 2, none⟩ = some (.int .i64 mb) ∧ w7.cell? ⟨w.heap.size, 3, none⟩ = some (.int .i64 fb) ∧ w7.cell? ⟨w.heap.size, 4, none⟩ = some (.bool ob) ∧ w7.cell? ⟨w.heap.size, 5, none⟩ = some (.int .i64 bb) := ⟨Cw7.out.cell 0, Cw7.out.cell 1, Cw7.out.cell 2, Cw7.out.cell 3, Cw7.out.cell 4, Cw7.out.cell 5⟩
    cases on with
    | false =>
      have HV2 : Hid (RES = (⟨zb, sb, mb, fb, ob, bb⟩, 10)) := Lib.hid (by rw [HV.out, if_neg (by simp), if_neg (by simp)])
      clear HV
      have b7 := B1.out
      obtain ⟨g0, g1, g2, g3, g4, g5⟩ : w7.cell? ⟨w.heap.size + 1, 0, none⟩ = some (.slice none 0 0) ∧ w7.cell? ⟨w.heap.size + 1, 1, none⟩ = some (.int .i64 0) ∧ w7.cell? ⟨w.heap.size + 1, 2, none⟩ = some (.int .i64 0) ∧ w7.cell? ⟨w.heap.size + 1, 3, none⟩ = some (.int .i64 0) ∧ w7.cell? ⟨w.heap.size + 1, 4, none⟩ = some (.bool false) ∧ w7.cell? ⟨w.heap.size + 1, 5, none⟩ = some (.int .i64 0) := ⟨b7.cell 0, b7.cell 1, b7.cell 2, b7.cell 3, b7.cell 4, b7.cell 5⟩
      have l0 := b7.frozen 0
      have l1 := b7.frozen 1
      have l2 := b7.frozen 2
      have l3 := b7.frozen 3
      have l4 := b7.frozen 4
      have l5 := b7.frozen 5
      have c9 := ((((((b7.set 0 (.slice (some a) n0 n0)).set 1 (.int .i64 sb)).set 2 (.int .i64 mb)).set 3 (.int .i64 fb)).set 4 (.bool ob)).set 5 (.int .i64 bb))
      have q9 : Q w ((((((w7.setCell ⟨w.heap.size + 1, 0, none⟩ (.slice (some a) n0 n0)).setCell ⟨w.heap.size + 1, 1, none⟩ (.int .i64 sb)).setCell ⟨w.heap.size + 1, 2, none⟩ (.int .i64 mb)).setCell ⟨w.heap.size + 1, 3, none⟩ (.int .i64 fb)).setCell ⟨w.heap.size + 1, 4, none⟩ (.bool ob)).setCell ⟨w.heap.size + 1, 5, none⟩ (.int .i64 bb)) := (Q.set (Q.set (Q.set (Q.set (Q.set (Q.set Qw7.out (by omega) _) (by omega) _) (by omega) _) (by omega) _) (by omega) _) (by omega) _)
      have k9 : ∀ j, j ≠ w.heap.size + 1 → ((((((w7.setCell ⟨w.heap.size + 1, 0, none⟩ (.slice (some a) n0 n0)).setCell ⟨w.heap.size + 1, 1, none⟩ (.int .i64 sb)).setCell ⟨w.heap.size + 1, 2, none⟩ (.int .i64 mb)).setCell ⟨w.heap.size + 1, 3, none⟩ (.int .i64 fb)).setCell ⟨w.heap.size + 1, 4, none⟩ (.bool ob)).setCell ⟨w.heap.size + 1, 5, none⟩ (.int .i64 bb)).heap[j]? = w7.heap[j]? := fun j hne => (heap_set _ _ _ _ hne).trans ( (heap_set _ _ _ _ hne).trans ( (heap_set _ _ _ _ hne).trans ( (heap_set _ _ _ _ hne).trans ( (heap_set _ _ _ _ hne).trans ( heap_set _ _ _ _ hne)))))
      obtain ⟨w9, hw9⟩ : ∃ z, z = ((((((w7.setCell ⟨w.heap.size + 1, 0, none⟩ (.slice (some a) n0 n0)).setCell ⟨w.heap.size + 1, 1, none⟩ (.int .i64 sb)).setCell ⟨w.heap.size + 1, 2, none⟩ (.int .i64 mb)).setCell ⟨w.heap.size + 1, 3, none⟩ (.int .i64 fb)).setCell ⟨w.heap.size + 1, 4, none⟩ (.bool ob)).setCell ⟨w.heap.size + 1, 5, none⟩ (.int .i64 bb)) := ⟨_, rfl⟩
      rw [← hw9] at c9 q9 k9
      simp only [List.setIfInBounds_toArray, List.set_cons_zero, List.set_cons_succ] at c9
      have C9 := Lib.hid c9
      have Q9 := Lib.hid q9
      have K9 := Lib.hid k9
      clear c9 q9 k9
      go_wp2_with fail
      rw [← hw9]
      clear hw9
      obtain ⟨k0, k1, k2, k3, k4, k5⟩ : w9.cell? ⟨w.heap.size + 1, 0, none⟩ = some (.slice (some a) n0 n0) ∧ w9.cell? ⟨w.heap.size + 1, 1, none⟩ = some (.int .i64 sb) ∧ w9.cell? ⟨w.heap.size + 1, 2, none⟩ = some (.int .i64 mb) ∧ w9.cell? ⟨w.heap.size + 1, 3, none⟩ = some (.int .i64 fb) ∧ w9.cell? ⟨w.heap.size + 1, 4, none⟩ = some (.bool ob) ∧ w9.cell? ⟨w.heap.size + 1, 5, none⟩ = some (.int .i64 bb) := ⟨C9.out.cell 0, C9.out.cell 1, C9.out.cell 2, C9.out.cell 3, C9.out.cell 4, C9.out.cell 5⟩
      (try simp only [Exit.inBlock, Exit.then])
      refine bodyPost_ret (v := .tuple #[.agg #[.slice (some a) n0 n0, .int .i64 sb, .int .i64 mb, .int .i64 fb, .bool ob, .int .i64 bb], .int .i64 10]) ?_ rfl ?_
      · rw [results_cell_tmp rfl]
        go_simp
      · rw [HV2.out]
        have hk : ∀ j, R ≤ j → w9.heap[j]? = w7.heap[j]? := fun j hj => K9.out j (by have := HR.out; omega)
        have := fr_zns (w := w9) (Bx.same HZ7.out (hk R (Nat.le_refl _))) (HF7.out.keep fun j hj => hk j (by omega)) HOK.out HP.out
        rw [← HN0.out, ← HA.out] at this
        exact ⟨_, rfl, by rw [HBZ.out]; exact this, Q9.out⟩
    | true =>
      have HV2 : Hid (RES = (⟨zs.map firmZ, sb, mb, fb, ob, bb⟩, 0)) := Lib.hid (by rw [HV.out, if_neg (by simp), if_pos rfl])
      clear HV x1 x2 x3 x4 x5
      go_wp2_with fail
      go_loopw [22] (fun I wr => ∃ i : Nat, i ≤ n0 ∧ I = .int .i64 i ∧ Hid (ZB wr R (stepP firmP P i)) ∧ Hid (∀ j, j ≠ R → wr.heap[j]? = w7.heap[j]?) ∧ Hid (Q w wr)) (fun I _ => n0 - (intOf I).toNat)
      case atStart => exact ⟨0, Nat.zero_le _, rfl, HZ7, Lib.hid (fun _ _ => rfl), Qw7⟩
      case round =>
        obtain ⟨i, hil, rfl, HZ, HK, HQ⟩ := hrel
        clear x0
        by_cases hlt : i < n0
        · have hiP : i < (stepP firmP P i).length := by rw [stepP_len]; omega
          have x0 : wr.cell? ⟨w.heap.size, 0, none⟩ = some (.slice (some a) n0 n0) := (Cw7.out.same (HK.out _ (by have := HR.out; omega))).cell 0
          obtain ⟨z0, z1, -, -, f1, -⟩ := HZ.out.at HA.out i hiP
          have HX : Hid (∀ x, ZB x R (stepP firmP P i) → ZB (x.setCell ⟨(a.add (i * 3)).block, (a.add (i * 3)).off + 1, none⟩ (.int .i64 ((stepP firmP P i)[i].1.b.length : Nat))) R (stepP firmP P (i + 1))) := Lib.hid (fun x hx => by
            have := hx.put1 HA.out i hiP ((stepP firmP P i)[i].1.b.length : Nat)
            rw [stepP_get firmP P i (by omega)] at this ⊢
            have e : (({ P[i].1 with firm := ((P[i].1.b.length : Nat) : Int) }, P[i].2) : Zn × Value) = firmP P[i] := rfl
            rwa [e, stepP_set firmP P i (by omega)] at this)
          have hpg := stepP_get firmP P i (by omega)
          have hbk := HF7.out.blks _ (List.getElem_mem (show i < P.length by omega))
          rw [← hpg] at hbk
          obtain ⟨p, hp⟩ : ∃ p, p = (stepP firmP P i)[i] := ⟨_, rfl⟩
          rw [← hp] at z0 z1 HX hbk
          obtain ⟨A1, c1, hv1⟩ := hbk.form
          rw [hv1] at z0
          obtain ⟨y, hy⟩ : ∃ y, y = p.1.b.length := ⟨_, rfl⟩
          rw [← hy] at z0 HX
          clear hbk hv1 hp hpg hy
          have hilt : (i : Int) < (n0 : Int) := by omega
          have hne : Hid ((a.add (i * 3)).block ≠ w.heap.size) := Lib.hid (by rw [add_block, HA.out]; have := HR.out; show R ≠ _; omega)
          go_wp2_with fail
          go_region
          go_wp2_with fail
          go_roundw
          case rel =>
            refine ⟨i + 1, by omega, by go_num, Lib.hid (HX.out _ HZ.out), Lib.hid (fun j hj => ?_), Lib.hid ?_⟩
            · refine (heap_set _ _ _ _ (by rw [add_block, HA.out]; exact hj)).trans ?_
              exact HK.out j hj
            · exact Q.set HQ.out.drew (by rw [add_block, HA.out]; have := HR.out; show _ ≤ R; omega) _
          case measure => simp [intOf]; omega
        · obtain rfl : i = n0 := by omega
          have hilt : ¬ (i : Int) < (i : Int) := by omega
          have hne0 : w.heap.size ≠ R := by have := HR.out; omega
          have hne1 : w.heap.size + 1 ≠ R := by have := HR.out; omega
          have bq := Cw7.out.same (HK.out _ hne0)
          have b7 := B1.out.same (HK.out _ hne1)
          obtain ⟨x0, x1, x2, x3, x4, x5⟩ : wr.cell? ⟨w.heap.size, 0, none⟩ = some (.slice (some a) i i) ∧ wr.cell? ⟨w.heap.size, 1, none⟩ = some (.int .i64 sb) ∧ wr.cell? ⟨w.heap.size, 2, none⟩ = some (.int .i64 mb) ∧ wr.cell? ⟨w.heap.size, 3, none⟩ = some (.int .i64 fb) ∧ wr.cell? ⟨w.heap.size, 4, none⟩ = some (.bool ob) ∧ wr.cell? ⟨w.heap.size, 5, none⟩ = some (.int .i64 bb) := ⟨bq.cell 0, bq.cell 1, bq.cell 2, bq.cell 3, bq.cell 4, bq.cell 5⟩
          clear bq hne0 hne1
          obtain ⟨g0, g1, g2, g3, g4, g5⟩ : wr.cell? ⟨w.heap.size + 1, 0, none⟩ = some (.slice none 0 0) ∧ wr.cell? ⟨w.heap.size + 1, 1, none⟩ = some (.int .i64 0) ∧ wr.cell? ⟨w.heap.size + 1, 2, none⟩ = some (.int .i64 0) ∧ wr.cell? ⟨w.heap.size + 1, 3, none⟩ = some (.int .i64 0) ∧ wr.cell? ⟨w.heap.size + 1, 4, none⟩ = some (.bool false) ∧ wr.cell? ⟨w.heap.size + 1, 5, none⟩ = some (.int .i64 0) := ⟨b7.cell 0, b7.cell 1, b7.cell 2, b7.cell 3, b7.cell 4, b7.cell 5⟩
          have l0 := b7.frozen 0
          have l1 := b7.frozen 1
          have l2 := b7.frozen 2
          have l3 := b7.frozen 3
          have l4 := b7.frozen 4
          have l5 := b7.frozen 5
          have c9 := ((((((b7.set 0 (.slice (some a) i i)).set 1 (.int .i64 sb)).set 2 (.int .i64 mb)).set 3 (.int .i64 fb)).set 4 (.bool ob)).set 5 (.int .i64 bb))
          have q9 : Q w ((((((wr.setCell ⟨w.heap.size + 1, 0, none⟩ (.slice (some a) i i)).setCell ⟨w.heap.size + 1, 1, none⟩ (.int .i64 sb)).setCell ⟨w.heap.size + 1, 2, none⟩ (.int .i64 mb)).setCell ⟨w.heap.size + 1, 3, none⟩ (.int .i64 fb)).setCell ⟨w.heap.size + 1, 4, none⟩ (.bool ob)).setCell ⟨w.heap.size + 1, 5, none⟩ (.int .i64 bb)) := (Q.set (Q.set (Q.set (Q.set (Q.set (Q.set HQ.out (by omega) _) (by omega) _) (by omega) _) (by omega) _) (by omega) _) (by omega) _)
          have k9 : ∀ j, j ≠ w.heap.size + 1 → ((((((wr.setCell ⟨w.heap.size + 1, 0, none⟩ (.slice (some a) i i)).setCell ⟨w.heap.size + 1, 1, none⟩ (.int .i64 sb)).setCell ⟨w.heap.size + 1, 2, none⟩ (.int .i64 mb)).setCell ⟨w.heap.size + 1, 3, none⟩ (.int .i64 fb)).setCell ⟨w.heap.size + 1, 4, none⟩ (.bool ob)).setCell ⟨w.heap.size + 1, 5, none⟩ (.int .i64 bb)).heap[j]? = wr.heap[j]? := fun j hne => (heap_set _ _ _ _ hne).trans ( (heap_set _ _ _ _ hne).trans ( (heap_set _ _ _ _ hne).trans ( (heap_set _ _ _ _ hne).trans ( (heap_set _ _ _ _ hne).trans ( heap_set _ _ _ _ hne)))))
          obtain ⟨w9, hw9⟩ : ∃ z, z = ((((((wr.setCell ⟨w.heap.size + 1, 0, none⟩ (.slice (some a) i i)).setCell ⟨w.heap.size + 1, 1, none⟩ (.int .i64 sb)).setCell ⟨w.heap.size + 1, 2, none⟩ (.int .i64 mb)).setCell ⟨w.heap.size + 1, 3, none⟩ (.int .i64 fb)).setCell ⟨w.heap.size + 1, 4, none⟩ (.bool ob)).setCell ⟨w.heap.size + 1, 5, none⟩ (.int .i64 bb)) := ⟨_, rfl⟩
          rw [← hw9] at c9 q9 k9
          simp only [List.setIfInBounds_toArray, List.set_cons_zero, List.set_cons_succ] at c9
          have C9 := Lib.hid c9
          have Q9 := Lib.hid q9
          have K9 := Lib.hid k9
          clear c9 q9 k9
          go_wp2_with fail
          rw [← hw9]
          clear hw9
          obtain ⟨k0, k1, k2, k3, k4, k5⟩ : w9.cell? ⟨w.heap.size + 1, 0, none⟩ = some (.slice (some a) i i) ∧ w9.cell? ⟨w.heap.size + 1, 1, none⟩ = some (.int .i64 sb) ∧ w9.cell? ⟨w.heap.size + 1, 2, none⟩ = some (.int .i64 mb) ∧ w9.cell? ⟨w.heap.size + 1, 3, none⟩ = some (.int .i64 fb) ∧ w9.cell? ⟨w.heap.size + 1, 4, none⟩ = some (.bool ob) ∧ w9.cell? ⟨w.heap.size + 1, 5, none⟩ = some (.int .i64 bb) := ⟨C9.out.cell 0, C9.out.cell 1, C9.out.cell 2, C9.out.cell 3, C9.out.cell 4, C9.out.cell 5⟩
          (try simp only [Exit.inBlock, Exit.then])
          refine bodyPost_ret (v := .tuple #[.agg #[.slice (some a) i i, .int .i64 sb, .int .i64 mb, .int .i64 fb, .bool ob, .int .i64 bb], .int .i64 0]) ?_ rfl ?_
          · rw [results_cell_tmp rfl]
            go_simp
          · rw [HV2.out]
            have hz9 : ZB w9 R (P.map firmP) := by
              have := Bx.same HZ.out (K9.out R (by have := HR.out; omega))
              rwa [← hPn, stepP_end] at this
            have hb9 : ∀ p ∈ P.map firmP, okZ p.1 ∧ Blks w9 w9.heap.size p.2 p.1.b := fun p hp => by
              obtain ⟨p', hp', rfl⟩ := List.mem_map.1 hp
              have ok := HOK.out p' hp'
              refine ⟨⟨ok.1, ?_, ?_⟩, ?_⟩
              · show -9223372036854775808 ≤ ((p'.1.b.length : Nat) : Int); omega
              · have := ok.1; unfold maxLen at this; show ((p'.1.b.length : Nat) : Int) ≤ _; omega
              · refine Fr.blks (R := R) (P := P) (w := w9) ?_ p' hp'
                refine HF7.out.keep fun j hj => ?_
                rw [K9.out j (by have := HR.out; omega), HK.out j (by omega)]
            have := ZB.zns hz9 HA.out hb9 (n := i) (by rw [List.length_map, hPn])
            rw [List.map_map] at this
            refine ⟨_, rfl, ?_, Q9.out⟩
            have e : List.map ((fun x => x.1) ∘ firmP) P = zs.map firmZ := by rw [← HP.out, List.map_map]; rfl
            rw [e] at this
            exact this
end Go.Proofs.Yteoondmakdghhaa

