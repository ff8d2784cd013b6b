/-
  Proved: whatever Keep IndexKeeps is called with, it returns true and leaves what it was given as it was. No condition.
-/
import Derived.Test.YteggmlefekpkfaaEKeep
import Derived.Deep.RegionHeld3
namespace Go.Proofs.Yteggmlefekpkfaa.indexKeeps
open Go.ChangeShapes Go.WideShapes Go.ChangeAt Go.RowKit
open Go.ChangeMaps (open_string shut_string)
set_option linter.unusedVariables false
set_option linter.unusedSimpArgs false

set_option maxHeartbeats 4000000 in
set_option maxRecDepth 100000 in
theorem walk_no (L : List Ent) (k o : ByteArray) (M : List Ver) (A0 : Option Addr) (n0 c0 : Nat) (key other : ByteArray) (A1 : Option Addr) (n1 c1 : Nat) (w : World) (n : Nat) (hn : n = 1 ∨ n = 6) (hP : PutI L k M [] n)
    (hlen : L.length ≤ 61) (htiny : ∀ e ∈ L, Tiny e) (hokL : ∀ e ∈ L, ∀ x ∈ e.L, okV x) (hks : k.size ≤ 80) (hos : o.size ≤ 80) (hMl : M.length ≤ 21) (hMo : ∀ x ∈ M, okV x) (hMd : ∀ x ∈ M, x.data.size ≤ 2001)
    (FW : Hid (∀ d, Q w d → Calls Try.prog 9 #[.slice A0 n0 c0] d fun e w' => ∃ v', e = .returned v' ∧ Ents w' w'.heap.size v' L ∧ Q d w'))
    (FK : Hid (∀ d, Calls Try.prog 10 #[.string key] d fun e w' => e = .returned (.string k) ∧ Q d w'))
    (FO : Hid (∀ d, Calls Try.prog 10 #[.string other] d fun e w' => e = .returned (.string o) ∧ Q d w'))
    (FC : Hid (∀ d, Q w d → Calls Try.prog 11 #[.slice A1 n1 c1] d fun e w' => ∃ v', e = .returned v' ∧ Vers w' w'.heap.size v' M ∧ Q d w')) :
    Calls Try.prog 5 #[.agg #[.slice A0 n0 c0, .string key, .string other, .slice A1 n1 c1]] w fun e w' => e = .returned (.bool true) ∧ Q w w' := by
  have hs := tiny_small (by omega) htiny
  have PU := putE_hid hP hs (by omega) (by omega)
  have GT := getE_hid L k hs hokL
  clear hP hs htiny hokL hMo hMd
  rcases hn with rfl | rfl
  · go_enter Try.func5, Try.ntmps5
    have qb : Q w (w.alloc (.cells #[.slice A0 n0 c0, .string key, .string other, .slice A1 n1 c1] 45)) := (Q.refl w).alloc _
    have KS : Hid (∀ d, Q (w.alloc (.cells #[.slice A0 n0 c0, .string key, .string other, .slice A1 n1 c1] 45)) d → (fun w' => w'.cell? ⟨w.heap.size, 0, none⟩ = some (.slice A0 n0 c0) ∧ w'.cell? ⟨w.heap.size, 1, none⟩ = some (.string key) ∧ w'.cell? ⟨w.heap.size, 2, none⟩ = some (.string other) ∧ w'.cell? ⟨w.heap.size, 3, none⟩ = some (.slice A1 n1 c1) ∧ Q w w') d) := Lib.hid (fun d q => by
      obtain ⟨a0, a1, a2, a3⟩ := keep_on q
      exact ⟨a0, a1, a2, a3, qb.trans q⟩)
    have SN : Hid ((fun w' => w'.cell? ⟨w.heap.size, 0, none⟩ = some (.slice A0 n0 c0) ∧ w'.cell? ⟨w.heap.size, 1, none⟩ = some (.string key) ∧ w'.cell? ⟨w.heap.size, 2, none⟩ = some (.string other) ∧ w'.cell? ⟨w.heap.size, 3, none⟩ = some (.slice A1 n1 c1) ∧ Q w w') (w.alloc (.cells #[.slice A0 n0 c0, .string key, .string other, .slice A1 n1 c1] 45)).drew) := Lib.hid (KS.out _ (Q.refl _).drew)
    go_wp2_with fail
    refine wp_region_held_drew (S := (fun w' => w'.cell? ⟨w.heap.size, 0, none⟩ = some (.slice A0 n0 c0) ∧ w'.cell? ⟨w.heap.size, 1, none⟩ = some (.string key) ∧ w'.cell? ⟨w.heap.size, 2, none⟩ = some (.string other) ∧ w'.cell? ⟨w.heap.size, 3, none⟩ = some (.slice A1 n1 c1) ∧ Q w w')) (by kernel_rfl) SN.out (fun hHeld => ?_)
    refine wpAnyH_take (i := 0) (oi := _) (v := ?_) rfl (by kernel_rfl) (by kernel_rfl) (by kernel_rfl) (fun _ _ _ h => h) (Or.inl ⟨by rfl, ?_⟩) (by assumption) ?_
    rotate_left
    · (intro wx hSw; (try dsimp only at hSw); go_simp; (try with_reducible rfl))
    (try simp only [Act.put, List.getElem_toArray, List.getElem_cons_zero, List.getElem_cons_succ, List.setIfInBounds_toArray, List.set_cons_zero, List.set_cons_succ])
    refine wpAnyH_take (i := 1) (oi := _) (v := ?_) rfl (by kernel_rfl) (by kernel_rfl) (by kernel_rfl) (fun _ _ _ h => h) (Or.inl ⟨by rfl, ?_⟩) (by assumption) ?_
    rotate_left
    · (intro wx hSw; (try dsimp only at hSw); go_simp; (try with_reducible rfl))
    (try simp only [Act.put, List.getElem_toArray, List.getElem_cons_zero, List.getElem_cons_succ, List.setIfInBounds_toArray, List.set_cons_zero, List.set_cons_succ])
    refine wpAnyH_take (i := 3) (oi := _) (v := ?_) rfl (by kernel_rfl) (by kernel_rfl) (by kernel_rfl) (fun _ _ _ h => h) (Or.inl ⟨by rfl, ?_⟩) (by assumption) ?_
    rotate_left
    · (intro wx hSw; (try dsimp only at hSw); go_simp; (try with_reducible rfl))
    (try simp only [Act.put, List.getElem_toArray, List.getElem_cons_zero, List.getElem_cons_succ, List.setIfInBounds_toArray, List.set_cons_zero, List.set_cons_succ])
    refine wpAnyH_take (i := 4) (oi := _) (v := ?_) rfl (by kernel_rfl) (by kernel_rfl) (by kernel_rfl) (fun _ _ _ h => h) (Or.inl ⟨by rfl, ?_⟩) (by assumption) ?_
    rotate_left
    · (intro wx hSw; (try dsimp only at hSw); go_simp; (try with_reducible rfl))
    (try simp only [Act.put, List.getElem_toArray, List.getElem_cons_zero, List.getElem_cons_succ, List.setIfInBounds_toArray, List.set_cons_zero, List.set_cons_succ])
    refine wpAnyH_take (i := 6) (oi := _) (v := ?_) rfl (by kernel_rfl) (by kernel_rfl) (by kernel_rfl) (fun _ _ _ h => h) (Or.inl ⟨by rfl, ?_⟩) (by assumption) ?_
    rotate_left
    · (intro wx hSw; (try dsimp only at hSw); go_simp; (try with_reducible rfl))
    (try simp only [Act.put, List.getElem_toArray, List.getElem_cons_zero, List.getElem_cons_succ, List.setIfInBounds_toArray, List.set_cons_zero, List.set_cons_succ])
    refine wpAnyH_take (i := 7) (oi := _) (v := ?_) rfl (by kernel_rfl) (by kernel_rfl) (by kernel_rfl) (fun _ _ _ h => h) (Or.inl ⟨by rfl, ?_⟩) (by assumption) ?_
    rotate_left
    · (intro wx hSw; (try dsimp only at hSw); go_simp; (try with_reducible rfl))
    (try simp only [Act.put, List.getElem_toArray, List.getElem_cons_zero, List.getElem_cons_succ, List.setIfInBounds_toArray, List.set_cons_zero, List.set_cons_succ])
    refine wpAnyH_take (i := 9) (oi := _) (v := ?_) rfl (by kernel_rfl) (by kernel_rfl) (by kernel_rfl) (fun _ _ _ h => h) (Or.inl ⟨by rfl, ?_⟩) (by assumption) ?_
    rotate_left
    · (intro wx hSw; (try dsimp only at hSw); go_simp; (try with_reducible rfl))
    (try simp only [Act.put, List.getElem_toArray, List.getElem_cons_zero, List.getElem_cons_succ, List.setIfInBounds_toArray, List.set_cons_zero, List.set_cons_succ])
    refine wpAnyH_take (i := 10) (oi := _) (v := ?_) rfl (by kernel_rfl) (by kernel_rfl) (by kernel_rfl) (fun _ _ _ h => h) (Or.inl ⟨by rfl, ?_⟩) (by assumption) ?_
    rotate_left
    · (intro wx hSw; (try dsimp only at hSw); go_simp; (try with_reducible rfl))
    (try simp only [Act.put, List.getElem_toArray, List.getElem_cons_zero, List.getElem_cons_succ, List.setIfInBounds_toArray, List.set_cons_zero, List.set_cons_succ])
    refine wpAnyH_ready (rs := [2]) (by kernel_rfl) (by simp) ?_
    refine AllReadyH.cons (o := _) rfl (fun K hK => ?_) AllReadyH.nil
    go_simp
    go_at_call 9
    refine (FW.out _ (qb.trans (Q.refl _).drew)).mono ?_
    rintro e w1 ⟨v1, rfl, e1, q1⟩
    refine hK.out _ _ (KS.out _ ((Q.refl _).drew.trans q1)) (fun hHeld => ?_)
    clear hK K
    (try simp only [Act.put, List.getElem_toArray, List.getElem_cons_zero, List.getElem_cons_succ, List.setIfInBounds_toArray, List.set_cons_zero, List.set_cons_succ])
    refine wpAnyH_ready (rs := [5]) (by kernel_rfl) (by simp) ?_
    refine AllReadyH.cons (o := _) rfl (fun K hK => ?_) AllReadyH.nil
    go_simp
    go_at_call 10
    refine (FK.out _).mono ?_
    rintro e w2 ⟨rfl, q2⟩
    refine hK.out _ _ (KS.out _ (((Q.refl _).drew.trans q1).trans q2)) (fun hHeld => ?_)
    clear hK K
    (try simp only [Act.put, List.getElem_toArray, List.getElem_cons_zero, List.getElem_cons_succ, List.setIfInBounds_toArray, List.set_cons_zero, List.set_cons_succ])
    refine wpAnyH_ready (rs := [8]) (by kernel_rfl) (by simp) ?_
    refine AllReadyH.cons (o := _) rfl (fun K hK => ?_) AllReadyH.nil
    go_simp
    go_at_call 10
    refine (FO.out _).mono ?_
    rintro e w3 ⟨rfl, q3⟩
    refine hK.out _ _ (KS.out _ ((((Q.refl _).drew.trans q1).trans q2).trans q3)) (fun hHeld => ?_)
    clear hK K
    (try simp only [Act.put, List.getElem_toArray, List.getElem_cons_zero, List.getElem_cons_succ, List.setIfInBounds_toArray, List.set_cons_zero, List.set_cons_succ])
    refine wpAnyH_ready (rs := [11]) (by kernel_rfl) (by simp) ?_
    refine AllReadyH.cons (o := _) rfl (fun K hK => ?_) AllReadyH.nil
    go_simp
    go_at_call 11
    refine (FC.out _ (qb.trans ((((Q.refl _).drew.trans q1).trans q2).trans q3))).mono ?_
    rintro e w4 ⟨v4, rfl, e4, q4⟩
    refine hK.out _ _ (KS.out _ (((((Q.refl _).drew.trans q1).trans q2).trans q3).trans q4)) (fun hHeld => ?_)
    clear hK K
    (try simp only [Act.put, List.getElem_toArray, List.getElem_cons_zero, List.getElem_cons_succ, List.setIfInBounds_toArray, List.set_cons_zero, List.set_cons_succ])
    refine wpAnyH_take (i := 12) (oi := _) (v := ?_) rfl (by kernel_rfl) (by kernel_rfl) (by kernel_rfl) (fun _ _ _ h => h) (Or.inl ⟨by rfl, ?_⟩) (by assumption) ?_
    rotate_left
    · (intro wx hSw; (try dsimp only at hSw); go_simp; (try with_reducible rfl))
    (try simp only [Act.put, List.getElem_toArray, List.getElem_cons_zero, List.getElem_cons_succ, List.setIfInBounds_toArray, List.set_cons_zero, List.set_cons_succ])
    refine wpAnyH_take (i := 13) (oi := _) (v := ?_) rfl (by kernel_rfl) (by kernel_rfl) (by kernel_rfl) (fun _ _ _ h => h) (Or.inl ⟨by rfl, ?_⟩) (by assumption) ?_
    rotate_left
    · (intro wx hSw; (try dsimp only at hSw); go_simp; (try with_reducible rfl))
    (try simp only [Act.put, List.getElem_toArray, List.getElem_cons_zero, List.getElem_cons_succ, List.setIfInBounds_toArray, List.set_cons_zero, List.set_cons_succ])
    refine wpAnyH_take (i := 14) (oi := _) (v := ?_) rfl (by kernel_rfl) (by kernel_rfl) (by kernel_rfl) (fun _ _ _ h => h) (Or.inl ⟨by rfl, ?_⟩) (by assumption) ?_
    rotate_left
    · (intro wx hSw; (try dsimp only at hSw); go_simp; (try with_reducible rfl))
    (try simp only [Act.put, List.getElem_toArray, List.getElem_cons_zero, List.getElem_cons_succ, List.setIfInBounds_toArray, List.set_cons_zero, List.set_cons_succ])
    refine wpAnyH_take (i := 15) (oi := _) (v := ?_) rfl (by kernel_rfl) (by kernel_rfl) (by kernel_rfl) (fun _ _ _ h => h) (Or.inl ⟨by rfl, ?_⟩) (by assumption) ?_
    rotate_left
    · (intro wx hSw; (try dsimp only at hSw); go_simp; (try with_reducible rfl))
    (try simp only [Act.put, List.getElem_toArray, List.getElem_cons_zero, List.getElem_cons_succ, List.setIfInBounds_toArray, List.set_cons_zero, List.set_cons_succ])
    refine wpAnyH_done (by kernel_rfl) ?_ _
    have qa : Q w w4 := qb.trans (((((Q.refl _).drew.trans q1).trans q2).trans q3).trans q4)
    have t1 := Lib.hid (e1.on ((q2.trans q3).trans q4))
    have t4 := Lib.hid e4
    clear KS SN FW FK FO FC qb q1 q2 q3 q4 e1 e4 hHeld
    go_wp2_with fail
    refine (GT.out _ _ t1.out).mono ?_
    rintro e w5 ⟨v5, rfl, e5, q5⟩
    clear e5
    go_wp2_with fail
    refine (PU.out _ _ _ (t1.out.on ((Q.refl _).trans q5)) (t4.out.on ((Q.refl _).trans q5))).mono ?_
    rintro e w6 ⟨v6, rfl, e6, q6⟩
    obtain ⟨A6, c6, rfl⟩ := e6.form
    simp only [List.length_nil]
    clear e6
    go_wp2_with fail
    refine (awake_any _).mono ?_
    rintro e w7 ⟨rfl, q7⟩
    clear GT PU t1 t4
    go_wp2
    go_ret
    exact ⟨rfl, qa.trans ((((Q.refl _).trans q5).trans q6).trans q7)⟩
  · go_enter Try.func5, Try.ntmps5
    have qb : Q w (w.alloc (.cells #[.slice A0 n0 c0, .string key, .string other, .slice A1 n1 c1] 45)) := (Q.refl w).alloc _
    have KS : Hid (∀ d, Q (w.alloc (.cells #[.slice A0 n0 c0, .string key, .string other, .slice A1 n1 c1] 45)) d → (fun w' => w'.cell? ⟨w.heap.size, 0, none⟩ = some (.slice A0 n0 c0) ∧ w'.cell? ⟨w.heap.size, 1, none⟩ = some (.string key) ∧ w'.cell? ⟨w.heap.size, 2, none⟩ = some (.string other) ∧ w'.cell? ⟨w.heap.size, 3, none⟩ = some (.slice A1 n1 c1) ∧ Q w w') d) := Lib.hid (fun d q => by
      obtain ⟨a0, a1, a2, a3⟩ := keep_on q
      exact ⟨a0, a1, a2, a3, qb.trans q⟩)
    have SN : Hid ((fun w' => w'.cell? ⟨w.heap.size, 0, none⟩ = some (.slice A0 n0 c0) ∧ w'.cell? ⟨w.heap.size, 1, none⟩ = some (.string key) ∧ w'.cell? ⟨w.heap.size, 2, none⟩ = some (.string other) ∧ w'.cell? ⟨w.heap.size, 3, none⟩ = some (.slice A1 n1 c1) ∧ Q w w') (w.alloc (.cells #[.slice A0 n0 c0, .string key, .string other, .slice A1 n1 c1] 45)).drew) := Lib.hid (KS.out _ (Q.refl _).drew)
    go_wp2_with fail
    refine wp_region_held_drew (S := (fun w' => w'.cell? ⟨w.heap.size, 0, none⟩ = some (.slice A0 n0 c0) ∧ w'.cell? ⟨w.heap.size, 1, none⟩ = some (.string key) ∧ w'.cell? ⟨w.heap.size, 2, none⟩ = some (.string other) ∧ w'.cell? ⟨w.heap.size, 3, none⟩ = some (.slice A1 n1 c1) ∧ Q w w')) (by kernel_rfl) SN.out (fun hHeld => ?_)
    refine wpAnyH_take (i := 0) (oi := _) (v := ?_) rfl (by kernel_rfl) (by kernel_rfl) (by kernel_rfl) (fun _ _ _ h => h) (Or.inl ⟨by rfl, ?_⟩) (by assumption) ?_
    rotate_left
    · (intro wx hSw; (try dsimp only at hSw); go_simp; (try with_reducible rfl))
    (try simp only [Act.put, List.getElem_toArray, List.getElem_cons_zero, List.getElem_cons_succ, List.setIfInBounds_toArray, List.set_cons_zero, List.set_cons_succ])
    refine wpAnyH_take (i := 1) (oi := _) (v := ?_) rfl (by kernel_rfl) (by kernel_rfl) (by kernel_rfl) (fun _ _ _ h => h) (Or.inl ⟨by rfl, ?_⟩) (by assumption) ?_
    rotate_left
    · (intro wx hSw; (try dsimp only at hSw); go_simp; (try with_reducible rfl))
    (try simp only [Act.put, List.getElem_toArray, List.getElem_cons_zero, List.getElem_cons_succ, List.setIfInBounds_toArray, List.set_cons_zero, List.set_cons_succ])
    refine wpAnyH_take (i := 3) (oi := _) (v := ?_) rfl (by kernel_rfl) (by kernel_rfl) (by kernel_rfl) (fun _ _ _ h => h) (Or.inl ⟨by rfl, ?_⟩) (by assumption) ?_
    rotate_left
    · (intro wx hSw; (try dsimp only at hSw); go_simp; (try with_reducible rfl))
    (try simp only [Act.put, List.getElem_toArray, List.getElem_cons_zero, List.getElem_cons_succ, List.setIfInBounds_toArray, List.set_cons_zero, List.set_cons_succ])
    refine wpAnyH_take (i := 4) (oi := _) (v := ?_) rfl (by kernel_rfl) (by kernel_rfl) (by kernel_rfl) (fun _ _ _ h => h) (Or.inl ⟨by rfl, ?_⟩) (by assumption) ?_
    rotate_left
    · (intro wx hSw; (try dsimp only at hSw); go_simp; (try with_reducible rfl))
    (try simp only [Act.put, List.getElem_toArray, List.getElem_cons_zero, List.getElem_cons_succ, List.setIfInBounds_toArray, List.set_cons_zero, List.set_cons_succ])
    refine wpAnyH_take (i := 6) (oi := _) (v := ?_) rfl (by kernel_rfl) (by kernel_rfl) (by kernel_rfl) (fun _ _ _ h => h) (Or.inl ⟨by rfl, ?_⟩) (by assumption) ?_
    rotate_left
    · (intro wx hSw; (try dsimp only at hSw); go_simp; (try with_reducible rfl))
    (try simp only [Act.put, List.getElem_toArray, List.getElem_cons_zero, List.getElem_cons_succ, List.setIfInBounds_toArray, List.set_cons_zero, List.set_cons_succ])
    refine wpAnyH_take (i := 7) (oi := _) (v := ?_) rfl (by kernel_rfl) (by kernel_rfl) (by kernel_rfl) (fun _ _ _ h => h) (Or.inl ⟨by rfl, ?_⟩) (by assumption) ?_
    rotate_left
    · (intro wx hSw; (try dsimp only at hSw); go_simp; (try with_reducible rfl))
    (try simp only [Act.put, List.getElem_toArray, List.getElem_cons_zero, List.getElem_cons_succ, List.setIfInBounds_toArray, List.set_cons_zero, List.set_cons_succ])
    refine wpAnyH_take (i := 9) (oi := _) (v := ?_) rfl (by kernel_rfl) (by kernel_rfl) (by kernel_rfl) (fun _ _ _ h => h) (Or.inl ⟨by rfl, ?_⟩) (by assumption) ?_
    rotate_left
    · (intro wx hSw; (try dsimp only at hSw); go_simp; (try with_reducible rfl))
    (try simp only [Act.put, List.getElem_toArray, List.getElem_cons_zero, List.getElem_cons_succ, List.setIfInBounds_toArray, List.set_cons_zero, List.set_cons_succ])
    refine wpAnyH_take (i := 10) (oi := _) (v := ?_) rfl (by kernel_rfl) (by kernel_rfl) (by kernel_rfl) (fun _ _ _ h => h) (Or.inl ⟨by rfl, ?_⟩) (by assumption) ?_
    rotate_left
    · (intro wx hSw; (try dsimp only at hSw); go_simp; (try with_reducible rfl))
    (try simp only [Act.put, List.getElem_toArray, List.getElem_cons_zero, List.getElem_cons_succ, List.setIfInBounds_toArray, List.set_cons_zero, List.set_cons_succ])
    refine wpAnyH_ready (rs := [2]) (by kernel_rfl) (by simp) ?_
    refine AllReadyH.cons (o := _) rfl (fun K hK => ?_) AllReadyH.nil
    go_simp
    go_at_call 9
    refine (FW.out _ (qb.trans (Q.refl _).drew)).mono ?_
    rintro e w1 ⟨v1, rfl, e1, q1⟩
    refine hK.out _ _ (KS.out _ ((Q.refl _).drew.trans q1)) (fun hHeld => ?_)
    clear hK K
    (try simp only [Act.put, List.getElem_toArray, List.getElem_cons_zero, List.getElem_cons_succ, List.setIfInBounds_toArray, List.set_cons_zero, List.set_cons_succ])
    refine wpAnyH_ready (rs := [5]) (by kernel_rfl) (by simp) ?_
    refine AllReadyH.cons (o := _) rfl (fun K hK => ?_) AllReadyH.nil
    go_simp
    go_at_call 10
    refine (FK.out _).mono ?_
    rintro e w2 ⟨rfl, q2⟩
    refine hK.out _ _ (KS.out _ (((Q.refl _).drew.trans q1).trans q2)) (fun hHeld => ?_)
    clear hK K
    (try simp only [Act.put, List.getElem_toArray, List.getElem_cons_zero, List.getElem_cons_succ, List.setIfInBounds_toArray, List.set_cons_zero, List.set_cons_succ])
    refine wpAnyH_ready (rs := [8]) (by kernel_rfl) (by simp) ?_
    refine AllReadyH.cons (o := _) rfl (fun K hK => ?_) AllReadyH.nil
    go_simp
    go_at_call 10
    refine (FO.out _).mono ?_
    rintro e w3 ⟨rfl, q3⟩
    refine hK.out _ _ (KS.out _ ((((Q.refl _).drew.trans q1).trans q2).trans q3)) (fun hHeld => ?_)
    clear hK K
    (try simp only [Act.put, List.getElem_toArray, List.getElem_cons_zero, List.getElem_cons_succ, List.setIfInBounds_toArray, List.set_cons_zero, List.set_cons_succ])
    refine wpAnyH_ready (rs := [11]) (by kernel_rfl) (by simp) ?_
    refine AllReadyH.cons (o := _) rfl (fun K hK => ?_) AllReadyH.nil
    go_simp
    go_at_call 11
    refine (FC.out _ (qb.trans ((((Q.refl _).drew.trans q1).trans q2).trans q3))).mono ?_
    rintro e w4 ⟨v4, rfl, e4, q4⟩
    refine hK.out _ _ (KS.out _ (((((Q.refl _).drew.trans q1).trans q2).trans q3).trans q4)) (fun hHeld => ?_)
    clear hK K
    (try simp only [Act.put, List.getElem_toArray, List.getElem_cons_zero, List.getElem_cons_succ, List.setIfInBounds_toArray, List.set_cons_zero, List.set_cons_succ])
    refine wpAnyH_take (i := 12) (oi := _) (v := ?_) rfl (by kernel_rfl) (by kernel_rfl) (by kernel_rfl) (fun _ _ _ h => h) (Or.inl ⟨by rfl, ?_⟩) (by assumption) ?_
    rotate_left
    · (intro wx hSw; (try dsimp only at hSw); go_simp; (try with_reducible rfl))
    (try simp only [Act.put, List.getElem_toArray, List.getElem_cons_zero, List.getElem_cons_succ, List.setIfInBounds_toArray, List.set_cons_zero, List.set_cons_succ])
    refine wpAnyH_take (i := 13) (oi := _) (v := ?_) rfl (by kernel_rfl) (by kernel_rfl) (by kernel_rfl) (fun _ _ _ h => h) (Or.inl ⟨by rfl, ?_⟩) (by assumption) ?_
    rotate_left
    · (intro wx hSw; (try dsimp only at hSw); go_simp; (try with_reducible rfl))
    (try simp only [Act.put, List.getElem_toArray, List.getElem_cons_zero, List.getElem_cons_succ, List.setIfInBounds_toArray, List.set_cons_zero, List.set_cons_succ])
    refine wpAnyH_take (i := 14) (oi := _) (v := ?_) rfl (by kernel_rfl) (by kernel_rfl) (by kernel_rfl) (fun _ _ _ h => h) (Or.inl ⟨by rfl, ?_⟩) (by assumption) ?_
    rotate_left
    · (intro wx hSw; (try dsimp only at hSw); go_simp; (try with_reducible rfl))
    (try simp only [Act.put, List.getElem_toArray, List.getElem_cons_zero, List.getElem_cons_succ, List.setIfInBounds_toArray, List.set_cons_zero, List.set_cons_succ])
    refine wpAnyH_take (i := 15) (oi := _) (v := ?_) rfl (by kernel_rfl) (by kernel_rfl) (by kernel_rfl) (fun _ _ _ h => h) (Or.inl ⟨by rfl, ?_⟩) (by assumption) ?_
    rotate_left
    · (intro wx hSw; (try dsimp only at hSw); go_simp; (try with_reducible rfl))
    (try simp only [Act.put, List.getElem_toArray, List.getElem_cons_zero, List.getElem_cons_succ, List.setIfInBounds_toArray, List.set_cons_zero, List.set_cons_succ])
    refine wpAnyH_done (by kernel_rfl) ?_ _
    have qa : Q w w4 := qb.trans (((((Q.refl _).drew.trans q1).trans q2).trans q3).trans q4)
    have t1 := Lib.hid (e1.on ((q2.trans q3).trans q4))
    have t4 := Lib.hid e4
    clear KS SN FW FK FO FC qb q1 q2 q3 q4 e1 e4 hHeld
    go_wp2_with fail
    refine (GT.out _ _ t1.out).mono ?_
    rintro e w5 ⟨v5, rfl, e5, q5⟩
    clear e5
    go_wp2_with fail
    refine (PU.out _ _ _ (t1.out.on ((Q.refl _).trans q5)) (t4.out.on ((Q.refl _).trans q5))).mono ?_
    rintro e w6 ⟨v6, rfl, e6, q6⟩
    obtain ⟨A6, c6, rfl⟩ := e6.form
    simp only [List.length_nil]
    clear e6
    go_wp2_with fail
    refine (awake_any _).mono ?_
    rintro e w7 ⟨rfl, q7⟩
    clear GT PU t1 t4
    go_wp2
    go_ret
    exact ⟨rfl, qa.trans ((((Q.refl _).trans q5).trans q6).trans q7)⟩
set_option maxHeartbeats 4000000 in
set_option maxRecDepth 100000 in
theorem walk_yes (L : List Ent) (k o : ByteArray) (M : List Ver) (A0 : Option Addr) (n0 c0 : Nat) (key other : ByteArray) (A1 : Option Addr) (n1 c1 : Nat) (w : World) (P : List Ent) (hP : PutI L k M P 0) (hPe : P = putE L k M) (hI : okI L) (hkk : hasO 1 60 ko k = true) (hM : okP M) (hPl : (putE L k M).length ≤ 60)
    (hlen : L.length ≤ 61) (htiny : ∀ e ∈ L, Tiny e) (hokL : ∀ e ∈ L, ∀ x ∈ e.L, okV x) (hks : k.size ≤ 80) (hos : o.size ≤ 80) (hMl : M.length ≤ 21) (hMo : ∀ x ∈ M, okV x) (hMd : ∀ x ∈ M, x.data.size ≤ 2001)
    (FW : Hid (∀ d, Q w d → Calls Try.prog 9 #[.slice A0 n0 c0] d fun e w' => ∃ v', e = .returned v' ∧ Ents w' w'.heap.size v' L ∧ Q d w'))
    (FK : Hid (∀ d, Calls Try.prog 10 #[.string key] d fun e w' => e = .returned (.string k) ∧ Q d w'))
    (FO : Hid (∀ d, Calls Try.prog 10 #[.string other] d fun e w' => e = .returned (.string o) ∧ Q d w'))
    (FC : Hid (∀ d, Q w d → Calls Try.prog 11 #[.slice A1 n1 c1] d fun e w' => ∃ v', e = .returned v' ∧ Vers w' w'.heap.size v' M ∧ Q d w')) :
    Calls Try.prog 5 #[.agg #[.slice A0 n0 c0, .string key, .string other, .slice A1 n1 c1]] w fun e w' => e = .returned (.bool true) ∧ Q w w' := by
  have hs := tiny_small (by omega) htiny
  have hPt := putI_tiny hP htiny ⟨hks, hMl, hMd⟩
  rw [← hPe] at hPl
  have hPs := tiny_small (by omega) hPt
  have hr := okI_rise hI
  have hIP : okI P := by rw [hPe]; exact okI_put hI hkk hM (by rw [← hPe]; exact hPl)
  have hokP : ∀ e ∈ P, ∀ x ∈ e.L, okV x := by
    intro e he x hx
    rw [hPe] at he
    rcases putE_iff.1 he with ⟨he, -⟩ | ⟨rfl, -⟩
    · exact hokL e he x hx
    · exact hMo x hx
  have hgk : getE P k = M := by rw [hPe]; exact getE_put hr k M
  have hgo : o ≠ k → getE P o = getE L o := by intro h; rw [hPe]; exact getE_other hr M h
  have hbk : putE P k (getE L k) = L := by rw [hPe]; exact put_back hI k M
  have hPB : PutI P k (getE L k) L 0 := .inr ⟨⟨hIP, hkk, getE_okP hI k⟩, .inr ⟨by rw [hbk]; exact hI.1, hbk.symm, rfl⟩⟩
  obtain ⟨hOl, -⟩ := getE_small k htiny
  obtain ⟨hOl2, -⟩ := getE_small o htiny
  have PU := putE_hid hP hs (by omega) (by omega)
  have PB := putE_hid hPB hPs (by omega) (by omega)
  have GT := getE_hid L k hs hokL
  have GP := getE_hid P k hPs hokP
  rw [hgk] at GP
  have GO := getE_hid L o hs hokL
  have GPO : o ≠ k → Hid (∀ b u, Ents b b.heap.size u P → Calls Try.prog 22 #[u, .string o] b fun e w' => ∃ v', e = .returned v' ∧ Vers w' w'.heap.size v' (getE L o) ∧ Q b w') := fun h => by
    have := getE_hid P o hPs hokP
    rw [hgo h] at this
    exact this
  have CK := check_hid (.inl ⟨rfl, hIP⟩ : chkI P true) hPs
  rw [show chkE true = 0 from rfl] at CK
  have SM := sameV_yes M (by omega)
  have SO := sameV_yes (getE L o) (by omega)
  have SL := sameE_yes L hs
  clear hP hPe hI hkk hM hPl hs hPt hPs hr hIP hokP hgk hgo hbk hPB hOl hOl2 htiny hokL hMo hMd
  by_cases hok : o = k
  · subst hok
    clear GPO GO SO
    go_enter Try.func5, Try.ntmps5
    have qb : Q w (w.alloc (.cells #[.slice A0 n0 c0, .string key, .string other, .slice A1 n1 c1] 45)) := (Q.refl w).alloc _
    have KS : Hid (∀ d, Q (w.alloc (.cells #[.slice A0 n0 c0, .string key, .string other, .slice A1 n1 c1] 45)) d → (fun w' => w'.cell? ⟨w.heap.size, 0, none⟩ = some (.slice A0 n0 c0) ∧ w'.cell? ⟨w.heap.size, 1, none⟩ = some (.string key) ∧ w'.cell? ⟨w.heap.size, 2, none⟩ = some (.string other) ∧ w'.cell? ⟨w.heap.size, 3, none⟩ = some (.slice A1 n1 c1) ∧ Q w w') d) := Lib.hid (fun d q => by
      obtain ⟨a0, a1, a2, a3⟩ := keep_on q
      exact ⟨a0, a1, a2, a3, qb.trans q⟩)
    have SN : Hid ((fun w' => w'.cell? ⟨w.heap.size, 0, none⟩ = some (.slice A0 n0 c0) ∧ w'.cell? ⟨w.heap.size, 1, none⟩ = some (.string key) ∧ w'.cell? ⟨w.heap.size, 2, none⟩ = some (.string other) ∧ w'.cell? ⟨w.heap.size, 3, none⟩ = some (.slice A1 n1 c1) ∧ Q w w') (w.alloc (.cells #[.slice A0 n0 c0, .string key, .string other, .slice A1 n1 c1] 45)).drew) := Lib.hid (KS.out _ (Q.refl _).drew)
    go_wp2_with fail
    refine wp_region_held_drew (S := (fun w' => w'.cell? ⟨w.heap.size, 0, none⟩ = some (.slice A0 n0 c0) ∧ w'.cell? ⟨w.heap.size, 1, none⟩ = some (.string key) ∧ w'.cell? ⟨w.heap.size, 2, none⟩ = some (.string other) ∧ w'.cell? ⟨w.heap.size, 3, none⟩ = some (.slice A1 n1 c1) ∧ Q w w')) (by kernel_rfl) SN.out (fun hHeld => ?_)
    refine wpAnyH_take (i := 0) (oi := _) (v := ?_) rfl (by kernel_rfl) (by kernel_rfl) (by kernel_rfl) (fun _ _ _ h => h) (Or.inl ⟨by rfl, ?_⟩) (by assumption) ?_
    rotate_left
    · (intro wx hSw; (try dsimp only at hSw); go_simp; (try with_reducible rfl))
    (try simp only [Act.put, List.getElem_toArray, List.getElem_cons_zero, List.getElem_cons_succ, List.setIfInBounds_toArray, List.set_cons_zero, List.set_cons_succ])
    refine wpAnyH_take (i := 1) (oi := _) (v := ?_) rfl (by kernel_rfl) (by kernel_rfl) (by kernel_rfl) (fun _ _ _ h => h) (Or.inl ⟨by rfl, ?_⟩) (by assumption) ?_
    rotate_left
    · (intro wx hSw; (try dsimp only at hSw); go_simp; (try with_reducible rfl))
    (try simp only [Act.put, List.getElem_toArray, List.getElem_cons_zero, List.getElem_cons_succ, List.setIfInBounds_toArray, List.set_cons_zero, List.set_cons_succ])
    refine wpAnyH_take (i := 3) (oi := _) (v := ?_) rfl (by kernel_rfl) (by kernel_rfl) (by kernel_rfl) (fun _ _ _ h => h) (Or.inl ⟨by rfl, ?_⟩) (by assumption) ?_
    rotate_left
    · (intro wx hSw; (try dsimp only at hSw); go_simp; (try with_reducible rfl))
    (try simp only [Act.put, List.getElem_toArray, List.getElem_cons_zero, List.getElem_cons_succ, List.setIfInBounds_toArray, List.set_cons_zero, List.set_cons_succ])
    refine wpAnyH_take (i := 4) (oi := _) (v := ?_) rfl (by kernel_rfl) (by kernel_rfl) (by kernel_rfl) (fun _ _ _ h => h) (Or.inl ⟨by rfl, ?_⟩) (by assumption) ?_
    rotate_left
    · (intro wx hSw; (try dsimp only at hSw); go_simp; (try with_reducible rfl))
    (try simp only [Act.put, List.getElem_toArray, List.getElem_cons_zero, List.getElem_cons_succ, List.setIfInBounds_toArray, List.set_cons_zero, List.set_cons_succ])
    refine wpAnyH_take (i := 6) (oi := _) (v := ?_) rfl (by kernel_rfl) (by kernel_rfl) (by kernel_rfl) (fun _ _ _ h => h) (Or.inl ⟨by rfl, ?_⟩) (by assumption) ?_
    rotate_left
    · (intro wx hSw; (try dsimp only at hSw); go_simp; (try with_reducible rfl))
    (try simp only [Act.put, List.getElem_toArray, List.getElem_cons_zero, List.getElem_cons_succ, List.setIfInBounds_toArray, List.set_cons_zero, List.set_cons_succ])
    refine wpAnyH_take (i := 7) (oi := _) (v := ?_) rfl (by kernel_rfl) (by kernel_rfl) (by kernel_rfl) (fun _ _ _ h => h) (Or.inl ⟨by rfl, ?_⟩) (by assumption) ?_
    rotate_left
    · (intro wx hSw; (try dsimp only at hSw); go_simp; (try with_reducible rfl))
    (try simp only [Act.put, List.getElem_toArray, List.getElem_cons_zero, List.getElem_cons_succ, List.setIfInBounds_toArray, List.set_cons_zero, List.set_cons_succ])
    refine wpAnyH_take (i := 9) (oi := _) (v := ?_) rfl (by kernel_rfl) (by kernel_rfl) (by kernel_rfl) (fun _ _ _ h => h) (Or.inl ⟨by rfl, ?_⟩) (by assumption) ?_
    rotate_left
    · (intro wx hSw; (try dsimp only at hSw); go_simp; (try with_reducible rfl))
    (try simp only [Act.put, List.getElem_toArray, List.getElem_cons_zero, List.getElem_cons_succ, List.setIfInBounds_toArray, List.set_cons_zero, List.set_cons_succ])
    refine wpAnyH_take (i := 10) (oi := _) (v := ?_) rfl (by kernel_rfl) (by kernel_rfl) (by kernel_rfl) (fun _ _ _ h => h) (Or.inl ⟨by rfl, ?_⟩) (by assumption) ?_
    rotate_left
    · (intro wx hSw; (try dsimp only at hSw); go_simp; (try with_reducible rfl))
    (try simp only [Act.put, List.getElem_toArray, List.getElem_cons_zero, List.getElem_cons_succ, List.setIfInBounds_toArray, List.set_cons_zero, List.set_cons_succ])
    refine wpAnyH_ready (rs := [2]) (by kernel_rfl) (by simp) ?_
    refine AllReadyH.cons (o := _) rfl (fun K hK => ?_) AllReadyH.nil
    go_simp
    go_at_call 9
    refine (FW.out _ (qb.trans (Q.refl _).drew)).mono ?_
    rintro e w1 ⟨v1, rfl, e1, q1⟩
    refine hK.out _ _ (KS.out _ ((Q.refl _).drew.trans q1)) (fun hHeld => ?_)
    clear hK K
    (try simp only [Act.put, List.getElem_toArray, List.getElem_cons_zero, List.getElem_cons_succ, List.setIfInBounds_toArray, List.set_cons_zero, List.set_cons_succ])
    refine wpAnyH_ready (rs := [5]) (by kernel_rfl) (by simp) ?_
    refine AllReadyH.cons (o := _) rfl (fun K hK => ?_) AllReadyH.nil
    go_simp
    go_at_call 10
    refine (FK.out _).mono ?_
    rintro e w2 ⟨rfl, q2⟩
    refine hK.out _ _ (KS.out _ (((Q.refl _).drew.trans q1).trans q2)) (fun hHeld => ?_)
    clear hK K
    (try simp only [Act.put, List.getElem_toArray, List.getElem_cons_zero, List.getElem_cons_succ, List.setIfInBounds_toArray, List.set_cons_zero, List.set_cons_succ])
    refine wpAnyH_ready (rs := [8]) (by kernel_rfl) (by simp) ?_
    refine AllReadyH.cons (o := _) rfl (fun K hK => ?_) AllReadyH.nil
    go_simp
    go_at_call 10
    refine (FO.out _).mono ?_
    rintro e w3 ⟨rfl, q3⟩
    refine hK.out _ _ (KS.out _ ((((Q.refl _).drew.trans q1).trans q2).trans q3)) (fun hHeld => ?_)
    clear hK K
    (try simp only [Act.put, List.getElem_toArray, List.getElem_cons_zero, List.getElem_cons_succ, List.setIfInBounds_toArray, List.set_cons_zero, List.set_cons_succ])
    refine wpAnyH_ready (rs := [11]) (by kernel_rfl) (by simp) ?_
    refine AllReadyH.cons (o := _) rfl (fun K hK => ?_) AllReadyH.nil
    go_simp
    go_at_call 11
    refine (FC.out _ (qb.trans ((((Q.refl _).drew.trans q1).trans q2).trans q3))).mono ?_
    rintro e w4 ⟨v4, rfl, e4, q4⟩
    refine hK.out _ _ (KS.out _ (((((Q.refl _).drew.trans q1).trans q2).trans q3).trans q4)) (fun hHeld => ?_)
    clear hK K
    (try simp only [Act.put, List.getElem_toArray, List.getElem_cons_zero, List.getElem_cons_succ, List.setIfInBounds_toArray, List.set_cons_zero, List.set_cons_succ])
    refine wpAnyH_take (i := 12) (oi := _) (v := ?_) rfl (by kernel_rfl) (by kernel_rfl) (by kernel_rfl) (fun _ _ _ h => h) (Or.inl ⟨by rfl, ?_⟩) (by assumption) ?_
    rotate_left
    · (intro wx hSw; (try dsimp only at hSw); go_simp; (try with_reducible rfl))
    (try simp only [Act.put, List.getElem_toArray, List.getElem_cons_zero, List.getElem_cons_succ, List.setIfInBounds_toArray, List.set_cons_zero, List.set_cons_succ])
    refine wpAnyH_take (i := 13) (oi := _) (v := ?_) rfl (by kernel_rfl) (by kernel_rfl) (by kernel_rfl) (fun _ _ _ h => h) (Or.inl ⟨by rfl, ?_⟩) (by assumption) ?_
    rotate_left
    · (intro wx hSw; (try dsimp only at hSw); go_simp; (try with_reducible rfl))
    (try simp only [Act.put, List.getElem_toArray, List.getElem_cons_zero, List.getElem_cons_succ, List.setIfInBounds_toArray, List.set_cons_zero, List.set_cons_succ])
    refine wpAnyH_take (i := 14) (oi := _) (v := ?_) rfl (by kernel_rfl) (by kernel_rfl) (by kernel_rfl) (fun _ _ _ h => h) (Or.inl ⟨by rfl, ?_⟩) (by assumption) ?_
    rotate_left
    · (intro wx hSw; (try dsimp only at hSw); go_simp; (try with_reducible rfl))
    (try simp only [Act.put, List.getElem_toArray, List.getElem_cons_zero, List.getElem_cons_succ, List.setIfInBounds_toArray, List.set_cons_zero, List.set_cons_succ])
    refine wpAnyH_take (i := 15) (oi := _) (v := ?_) rfl (by kernel_rfl) (by kernel_rfl) (by kernel_rfl) (fun _ _ _ h => h) (Or.inl ⟨by rfl, ?_⟩) (by assumption) ?_
    rotate_left
    · (intro wx hSw; (try dsimp only at hSw); go_simp; (try with_reducible rfl))
    (try simp only [Act.put, List.getElem_toArray, List.getElem_cons_zero, List.getElem_cons_succ, List.setIfInBounds_toArray, List.set_cons_zero, List.set_cons_succ])
    refine wpAnyH_done (by kernel_rfl) ?_ _
    have qa : Q w w4 := qb.trans (((((Q.refl _).drew.trans q1).trans q2).trans q3).trans q4)
    have t1 := Lib.hid (e1.on ((q2.trans q3).trans q4))
    have t4 := Lib.hid e4
    clear KS SN FW FK FO FC qb q1 q2 q3 q4 e1 e4 hHeld
    go_wp2_with fail
    refine (GT.out _ _ t1.out).mono ?_
    rintro e w5 ⟨v5, rfl, e5, q5⟩
    have t5 := Lib.hid e5
    clear e5
    go_wp2_with fail
    refine (PU.out _ _ _ (t1.out.on ((Q.refl _).trans q5)) (t4.out.on ((Q.refl _).trans q5))).mono ?_
    rintro e w6 ⟨v6, rfl, e6, q6⟩
    have t6 := Lib.hid e6
    clear e6
    go_wp2_with fail
    refine (GP.out _ _ (t6.out.on (Q.refl _))).mono ?_
    rintro e w7 ⟨v7, rfl, e7, q7⟩
    have t7 := Lib.hid e7
    clear e7
    go_wp2_with fail
    refine (SM.out _ _ _ (t7.out.on (Q.refl _)) (t4.out.on ((((Q.refl _).trans q5).trans q6).trans q7))).mono ?_
    rintro e w8 ⟨rfl, q8⟩
    go_wp2_with fail
    refine (CK.out _ _ (t6.out.on (((Q.refl _).trans q7).trans q8))).mono ?_
    rintro e w9 ⟨rfl, q9⟩
    go_wp2_with fail
    refine (PB.out _ _ _ (t6.out.on ((((Q.refl _).trans q7).trans q8).trans q9)) (t5.out.on (((((Q.refl _).trans q6).trans q7).trans q8).trans q9))).mono ?_
    rintro e w10 ⟨v10, rfl, e10, q10⟩
    have t10 := Lib.hid e10
    clear e10
    go_wp2_with fail
    refine (SL.out _ _ _ (t10.out.on (Q.refl _)) (t1.out.on (((((((Q.refl _).trans q5).trans q6).trans q7).trans q8).trans q9).trans q10))).mono ?_
    rintro e w11 ⟨rfl, q11⟩
    go_wp2_with fail
    refine (awake_any _).mono ?_
    rintro e w12 ⟨rfl, q12⟩
    go_wp2
    go_ret
    exact ⟨rfl, qa.trans (((((((((Q.refl _).trans q5).trans q6).trans q7).trans q8).trans q9).trans q10).trans q11).trans q12)⟩
  · have hne := key_ne hok
    have GPO := GPO hok
    clear hok
    go_enter Try.func5, Try.ntmps5
    have qb : Q w (w.alloc (.cells #[.slice A0 n0 c0, .string key, .string other, .slice A1 n1 c1] 45)) := (Q.refl w).alloc _
    have KS : Hid (∀ d, Q (w.alloc (.cells #[.slice A0 n0 c0, .string key, .string other, .slice A1 n1 c1] 45)) d → (fun w' => w'.cell? ⟨w.heap.size, 0, none⟩ = some (.slice A0 n0 c0) ∧ w'.cell? ⟨w.heap.size, 1, none⟩ = some (.string key) ∧ w'.cell? ⟨w.heap.size, 2, none⟩ = some (.string other) ∧ w'.cell? ⟨w.heap.size, 3, none⟩ = some (.slice A1 n1 c1) ∧ Q w w') d) := Lib.hid (fun d q => by
      obtain ⟨a0, a1, a2, a3⟩ := keep_on q
      exact ⟨a0, a1, a2, a3, qb.trans q⟩)
    have SN : Hid ((fun w' => w'.cell? ⟨w.heap.size, 0, none⟩ = some (.slice A0 n0 c0) ∧ w'.cell? ⟨w.heap.size, 1, none⟩ = some (.string key) ∧ w'.cell? ⟨w.heap.size, 2, none⟩ = some (.string other) ∧ w'.cell? ⟨w.heap.size, 3, none⟩ = some (.slice A1 n1 c1) ∧ Q w w') (w.alloc (.cells #[.slice A0 n0 c0, .string key, .string other, .slice A1 n1 c1] 45)).drew) := Lib.hid (KS.out _ (Q.refl _).drew)
    go_wp2_with fail
    refine wp_region_held_drew (S := (fun w' => w'.cell? ⟨w.heap.size, 0, none⟩ = some (.slice A0 n0 c0) ∧ w'.cell? ⟨w.heap.size, 1, none⟩ = some (.string key) ∧ w'.cell? ⟨w.heap.size, 2, none⟩ = some (.string other) ∧ w'.cell? ⟨w.heap.size, 3, none⟩ = some (.slice A1 n1 c1) ∧ Q w w')) (by kernel_rfl) SN.out (fun hHeld => ?_)
    refine wpAnyH_take (i := 0) (oi := _) (v := ?_) rfl (by kernel_rfl) (by kernel_rfl) (by kernel_rfl) (fun _ _ _ h => h) (Or.inl ⟨by rfl, ?_⟩) (by assumption) ?_
    rotate_left
    · (intro wx hSw; (try dsimp only at hSw); go_simp; (try with_reducible rfl))
    (try simp only [Act.put, List.getElem_toArray, List.getElem_cons_zero, List.getElem_cons_succ, List.setIfInBounds_toArray, List.set_cons_zero, List.set_cons_succ])
    refine wpAnyH_take (i := 1) (oi := _) (v := ?_) rfl (by kernel_rfl) (by kernel_rfl) (by kernel_rfl) (fun _ _ _ h => h) (Or.inl ⟨by rfl, ?_⟩) (by assumption) ?_
    rotate_left
    · (intro wx hSw; (try dsimp only at hSw); go_simp; (try with_reducible rfl))
    (try simp only [Act.put, List.getElem_toArray, List.getElem_cons_zero, List.getElem_cons_succ, List.setIfInBounds_toArray, List.set_cons_zero, List.set_cons_succ])
    refine wpAnyH_take (i := 3) (oi := _) (v := ?_) rfl (by kernel_rfl) (by kernel_rfl) (by kernel_rfl) (fun _ _ _ h => h) (Or.inl ⟨by rfl, ?_⟩) (by assumption) ?_
    rotate_left
    · (intro wx hSw; (try dsimp only at hSw); go_simp; (try with_reducible rfl))
    (try simp only [Act.put, List.getElem_toArray, List.getElem_cons_zero, List.getElem_cons_succ, List.setIfInBounds_toArray, List.set_cons_zero, List.set_cons_succ])
    refine wpAnyH_take (i := 4) (oi := _) (v := ?_) rfl (by kernel_rfl) (by kernel_rfl) (by kernel_rfl) (fun _ _ _ h => h) (Or.inl ⟨by rfl, ?_⟩) (by assumption) ?_
    rotate_left
    · (intro wx hSw; (try dsimp only at hSw); go_simp; (try with_reducible rfl))
    (try simp only [Act.put, List.getElem_toArray, List.getElem_cons_zero, List.getElem_cons_succ, List.setIfInBounds_toArray, List.set_cons_zero, List.set_cons_succ])
    refine wpAnyH_take (i := 6) (oi := _) (v := ?_) rfl (by kernel_rfl) (by kernel_rfl) (by kernel_rfl) (fun _ _ _ h => h) (Or.inl ⟨by rfl, ?_⟩) (by assumption) ?_
    rotate_left
    · (intro wx hSw; (try dsimp only at hSw); go_simp; (try with_reducible rfl))
    (try simp only [Act.put, List.getElem_toArray, List.getElem_cons_zero, List.getElem_cons_succ, List.setIfInBounds_toArray, List.set_cons_zero, List.set_cons_succ])
    refine wpAnyH_take (i := 7) (oi := _) (v := ?_) rfl (by kernel_rfl) (by kernel_rfl) (by kernel_rfl) (fun _ _ _ h => h) (Or.inl ⟨by rfl, ?_⟩) (by assumption) ?_
    rotate_left
    · (intro wx hSw; (try dsimp only at hSw); go_simp; (try with_reducible rfl))
    (try simp only [Act.put, List.getElem_toArray, List.getElem_cons_zero, List.getElem_cons_succ, List.setIfInBounds_toArray, List.set_cons_zero, List.set_cons_succ])
    refine wpAnyH_take (i := 9) (oi := _) (v := ?_) rfl (by kernel_rfl) (by kernel_rfl) (by kernel_rfl) (fun _ _ _ h => h) (Or.inl ⟨by rfl, ?_⟩) (by assumption) ?_
    rotate_left
    · (intro wx hSw; (try dsimp only at hSw); go_simp; (try with_reducible rfl))
    (try simp only [Act.put, List.getElem_toArray, List.getElem_cons_zero, List.getElem_cons_succ, List.setIfInBounds_toArray, List.set_cons_zero, List.set_cons_succ])
    refine wpAnyH_take (i := 10) (oi := _) (v := ?_) rfl (by kernel_rfl) (by kernel_rfl) (by kernel_rfl) (fun _ _ _ h => h) (Or.inl ⟨by rfl, ?_⟩) (by assumption) ?_
    rotate_left
    · (intro wx hSw; (try dsimp only at hSw); go_simp; (try with_reducible rfl))
    (try simp only [Act.put, List.getElem_toArray, List.getElem_cons_zero, List.getElem_cons_succ, List.setIfInBounds_toArray, List.set_cons_zero, List.set_cons_succ])
    refine wpAnyH_ready (rs := [2]) (by kernel_rfl) (by simp) ?_
    refine AllReadyH.cons (o := _) rfl (fun K hK => ?_) AllReadyH.nil
    go_simp
    go_at_call 9
    refine (FW.out _ (qb.trans (Q.refl _).drew)).mono ?_
    rintro e w1 ⟨v1, rfl, e1, q1⟩
    refine hK.out _ _ (KS.out _ ((Q.refl _).drew.trans q1)) (fun hHeld => ?_)
    clear hK K
    (try simp only [Act.put, List.getElem_toArray, List.getElem_cons_zero, List.getElem_cons_succ, List.setIfInBounds_toArray, List.set_cons_zero, List.set_cons_succ])
    refine wpAnyH_ready (rs := [5]) (by kernel_rfl) (by simp) ?_
    refine AllReadyH.cons (o := _) rfl (fun K hK => ?_) AllReadyH.nil
    go_simp
    go_at_call 10
    refine (FK.out _).mono ?_
    rintro e w2 ⟨rfl, q2⟩
    refine hK.out _ _ (KS.out _ (((Q.refl _).drew.trans q1).trans q2)) (fun hHeld => ?_)
    clear hK K
    (try simp only [Act.put, List.getElem_toArray, List.getElem_cons_zero, List.getElem_cons_succ, List.setIfInBounds_toArray, List.set_cons_zero, List.set_cons_succ])
    refine wpAnyH_ready (rs := [8]) (by kernel_rfl) (by simp) ?_
    refine AllReadyH.cons (o := _) rfl (fun K hK => ?_) AllReadyH.nil
    go_simp
    go_at_call 10
    refine (FO.out _).mono ?_
    rintro e w3 ⟨rfl, q3⟩
    refine hK.out _ _ (KS.out _ ((((Q.refl _).drew.trans q1).trans q2).trans q3)) (fun hHeld => ?_)
    clear hK K
    (try simp only [Act.put, List.getElem_toArray, List.getElem_cons_zero, List.getElem_cons_succ, List.setIfInBounds_toArray, List.set_cons_zero, List.set_cons_succ])
    refine wpAnyH_ready (rs := [11]) (by kernel_rfl) (by simp) ?_
    refine AllReadyH.cons (o := _) rfl (fun K hK => ?_) AllReadyH.nil
    go_simp
    go_at_call 11
    refine (FC.out _ (qb.trans ((((Q.refl _).drew.trans q1).trans q2).trans q3))).mono ?_
    rintro e w4 ⟨v4, rfl, e4, q4⟩
    refine hK.out _ _ (KS.out _ (((((Q.refl _).drew.trans q1).trans q2).trans q3).trans q4)) (fun hHeld => ?_)
    clear hK K
    (try simp only [Act.put, List.getElem_toArray, List.getElem_cons_zero, List.getElem_cons_succ, List.setIfInBounds_toArray, List.set_cons_zero, List.set_cons_succ])
    refine wpAnyH_take (i := 12) (oi := _) (v := ?_) rfl (by kernel_rfl) (by kernel_rfl) (by kernel_rfl) (fun _ _ _ h => h) (Or.inl ⟨by rfl, ?_⟩) (by assumption) ?_
    rotate_left
    · (intro wx hSw; (try dsimp only at hSw); go_simp; (try with_reducible rfl))
    (try simp only [Act.put, List.getElem_toArray, List.getElem_cons_zero, List.getElem_cons_succ, List.setIfInBounds_toArray, List.set_cons_zero, List.set_cons_succ])
    refine wpAnyH_take (i := 13) (oi := _) (v := ?_) rfl (by kernel_rfl) (by kernel_rfl) (by kernel_rfl) (fun _ _ _ h => h) (Or.inl ⟨by rfl, ?_⟩) (by assumption) ?_
    rotate_left
    · (intro wx hSw; (try dsimp only at hSw); go_simp; (try with_reducible rfl))
    (try simp only [Act.put, List.getElem_toArray, List.getElem_cons_zero, List.getElem_cons_succ, List.setIfInBounds_toArray, List.set_cons_zero, List.set_cons_succ])
    refine wpAnyH_take (i := 14) (oi := _) (v := ?_) rfl (by kernel_rfl) (by kernel_rfl) (by kernel_rfl) (fun _ _ _ h => h) (Or.inl ⟨by rfl, ?_⟩) (by assumption) ?_
    rotate_left
    · (intro wx hSw; (try dsimp only at hSw); go_simp; (try with_reducible rfl))
    (try simp only [Act.put, List.getElem_toArray, List.getElem_cons_zero, List.getElem_cons_succ, List.setIfInBounds_toArray, List.set_cons_zero, List.set_cons_succ])
    refine wpAnyH_take (i := 15) (oi := _) (v := ?_) rfl (by kernel_rfl) (by kernel_rfl) (by kernel_rfl) (fun _ _ _ h => h) (Or.inl ⟨by rfl, ?_⟩) (by assumption) ?_
    rotate_left
    · (intro wx hSw; (try dsimp only at hSw); go_simp; (try with_reducible rfl))
    (try simp only [Act.put, List.getElem_toArray, List.getElem_cons_zero, List.getElem_cons_succ, List.setIfInBounds_toArray, List.set_cons_zero, List.set_cons_succ])
    refine wpAnyH_done (by kernel_rfl) ?_ _
    have qa : Q w w4 := qb.trans (((((Q.refl _).drew.trans q1).trans q2).trans q3).trans q4)
    have t1 := Lib.hid (e1.on ((q2.trans q3).trans q4))
    have t4 := Lib.hid e4
    clear KS SN FW FK FO FC qb q1 q2 q3 q4 e1 e4 hHeld
    go_wp2_with fail
    refine (GT.out _ _ t1.out).mono ?_
    rintro e w5 ⟨v5, rfl, e5, q5⟩
    have t5 := Lib.hid e5
    clear e5
    go_wp2_with fail
    refine (PU.out _ _ _ (t1.out.on ((Q.refl _).trans q5)) (t4.out.on ((Q.refl _).trans q5))).mono ?_
    rintro e w6 ⟨v6, rfl, e6, q6⟩
    have t6 := Lib.hid e6
    clear e6
    go_wp2_with fail
    refine (GP.out _ _ (t6.out.on (Q.refl _))).mono ?_
    rintro e w7 ⟨v7, rfl, e7, q7⟩
    have t7 := Lib.hid e7
    clear e7
    go_wp2_with fail
    refine (SM.out _ _ _ (t7.out.on (Q.refl _)) (t4.out.on ((((Q.refl _).trans q5).trans q6).trans q7))).mono ?_
    rintro e w8 ⟨rfl, q8⟩
    go_wp2_with fail
    refine (CK.out _ _ (t6.out.on (((Q.refl _).trans q7).trans q8))).mono ?_
    rintro e w9 ⟨rfl, q9⟩
    go_wp2_with fail
    refine (GPO.out _ _ (t6.out.on ((((Q.refl _).trans q7).trans q8).trans q9))).mono ?_
    rintro e w10 ⟨v10, rfl, e10, q10⟩
    have t10 := Lib.hid e10
    clear e10
    go_wp2_with fail
    refine (GO.out _ _ (t1.out.on (((((((Q.refl _).trans q5).trans q6).trans q7).trans q8).trans q9).trans q10))).mono ?_
    rintro e w11 ⟨v11, rfl, e11, q11⟩
    have t11 := Lib.hid e11
    clear e11
    go_wp2_with fail
    refine (SO.out _ _ _ (t10.out.on ((Q.refl _).trans q11)) (t11.out.on (Q.refl _))).mono ?_
    rintro e w12 ⟨rfl, q12⟩
    go_wp2_with fail
    refine (PB.out _ _ _ (t6.out.on (((((((Q.refl _).trans q7).trans q8).trans q9).trans q10).trans q11).trans q12)) (t5.out.on ((((((((Q.refl _).trans q6).trans q7).trans q8).trans q9).trans q10).trans q11).trans q12))).mono ?_
    rintro e w13 ⟨v13, rfl, e13, q13⟩
    have t13 := Lib.hid e13
    clear e13
    go_wp2_with fail
    refine (SL.out _ _ _ (t13.out.on (Q.refl _)) (t1.out.on ((((((((((Q.refl _).trans q5).trans q6).trans q7).trans q8).trans q9).trans q10).trans q11).trans q12).trans q13))).mono ?_
    rintro e w14 ⟨rfl, q14⟩
    go_wp2_with fail
    refine (awake_any _).mono ?_
    rintro e w15 ⟨rfl, q15⟩
    go_wp2
    go_ret
    exact ⟨rfl, qa.trans ((((((((((((Q.refl _).trans q5).trans q6).trans q7).trans q8).trans q9).trans q10).trans q11).trans q12).trans q13).trans q14).trans q15)⟩
theorem walk (u : Value) (l : List Ent) (key other : ByteArray) (uc : Value) (c : List Ver) (w : World) (t0 : Ents w w.heap.size u l) (z0 : l.length ≤ maxLen) (sk : key.size ≤ maxLen) (so : other.size ≤ maxLen) (tc : Vers w w.heap.size uc c) (zc : c.length ≤ maxLen) :
    Calls Try.prog 5 #[.agg #[u, .string key, .string other, uc]] w fun e w' => e = .returned (.bool true) ∧ Q w w' := by
  obtain ⟨A0, c0, rfl⟩ := t0.form
  obtain ⟨A1, c1, rfl⟩ := tc.form
  obtain ⟨L, hL, hlen, hfew, htiny, FW⟩ := few_allE l _ w z0 t0
  obtain ⟨M, hM, hMl, hMo, hMd, FC⟩ := few_allV c _ w zc tc
  obtain ⟨k, hk, hks, FK⟩ := few_key key sk
  obtain ⟨o, ho, hos, FO⟩ := few_key other so
  have hokL : ∀ e ∈ L, ∀ x ∈ e.L, okV x := by
    intro e he x hx
    rw [hL] at he
    obtain ⟨y, hy, rfl⟩ := fewE_mem he
    exact fewV_okV (t0.okVs y hy) x hx
  obtain ⟨P, n, hP⟩ := putI_ex L k M
  rcases putI_k hP with ⟨rfl, h1, h2, h3, h4, h5⟩ | ⟨-, rfl, hn⟩
  · exact walk_yes L k o M _ _ _ key other _ _ _ w P hP h4 h1 h2 h3 h5 hlen htiny hokL hks hos hMl hMo hMd FW FK FO FC
  · exact walk_no L k o M _ _ _ key other _ _ _ w n hn hP hlen htiny hokL hks hos hMl hMo hMd FW FK FO FC

set_option maxRecDepth 100000 in
theorem lifted (os : Os) (started : os.Started) (H : Type) (enc : TypeId × Value → H) :
    ReturnsInHanded {} Try.checked os 5 .any (Rows.indexKeepsSpec.pre6 enc Try.prog Try.f5 Rows.indexKeepsRow.domain false) (Rows.indexKeepsSpec.post enc Try.prog Try.f5 false true false false) := by
  refine returnsInHanded_of_change (C := Try.checked) own started (by kernel_rfl) Try.func5
    (ChangeSpec.witness6 (enc := enc) (C := Try.checked) false ⟨#[], #[.agg #[.slice none 0 0, .string ByteArray.empty, .string ByteArray.empty, .slice none 0 0]], []⟩ 8 (by kernel_rfl) (by kernel_rfl) (by kernel_rfl) (by kernel_rfl)) ?_
  intro W base args ds gs before hval0 hW hcnd _
  have hval : ∀ (j : Nat) t v, Try.f5.params[j]? = some t → args[j]? = some v → Value.okWide Try.prog W .any base t v := hval0
  have hW' := hW
  obtain ⟨p, q, hA0, hV, rfl, hfz, hnd⟩ := hW
  have hA : DataW.TrodAll enc Try.prog W 0 (fun _ => true) true Try.f5.params.toList args.toList ds p := hA0
  rw [Try.params5] at hA hval
  obtain ⟨v0, vs0, d0, ds0, p0, q0, hargs, rfl, rfl, h0, r0⟩ := trodAll_cons hA
  obtain ⟨rfl, rfl, rfl⟩ := trodAll_nil r0
  obtain rfl : args = #[v0] := by cases args; simp_all
  obtain ⟨rfl, rfl⟩ := trodVars_none hV
  clear hA0 hval0
  simp only [List.append_nil] at hW'
  have hlt : ∀ x ∈ p0, x.block < W.heap.size := fun x hx => by simpa using hW'.lt x (by simpa using hx)
  obtain ⟨u0, l0, k0, o0, uc0, c0, rfl, t0, z0, sk0, so0, tc0, zc0⟩ := open_keep (hval 0 45 v0 rfl rfl) h0
  refine (walk u0 l0 k0 o0 uc0 c0 W t0 z0 sk0 so0 tc0 zc0).mono fun e W' ⟨he, bel⟩ => ?_
  subst he
  refine ⟨_, rfl, _, _, _, [], _, [], hW', trodAll_mk1 (shut_bool Try.underlying4 _), (trodAll_cons_mk (Below.trod laid (by kernel_rfl) (of_decide_eq_true (by kernel_rfl)) h0 bel (fun x hx => hlt x (by simp [hx]))) trodAll_mk0), rfl, Below.frame bel _, fun h => by cases h⟩

theorem over : Rows.indexKeepsRow.holds Try.pinned (OpenSpec.ofChange Rows.indexKeepsSpec) :=
  OpenClaim.holds_of_wide 5 Try.f5 rfl rfl rfl rfl rfl rfl rfl ⟨rfl, rfl, rfl, rfl, rfl⟩ rfl rfl rfl rfl rfl (by kernel_rfl) Try.func5 (by kernel_rfl)
    (of_decide_eq_true (by kernel_rfl)) (by unfold Func.isWrapper; first | (rw [if_pos (by decide +kernel)]; kernel_rfl) | (rw [if_neg (by decide +kernel)]; exact ⟨rfl, rfl⟩))
    (fun os started H enc _ => lifted os started H enc)

theorem proved : Rows.IndexKeepsSaid := over
#print axioms proved
end Go.Proofs.Yteggmlefekpkfaa.indexKeeps
