/-
  Contract of the program's without.
-/
import Derived.Test.YtflfhigldkdlmaaPConcat
import Derived.Deep.RegionHeld3
namespace Go.Proofs.Ytflfhigldkdlmaa
open Go.ChangeShapes Go.WideShapes Go.ChangeAt Go.RowKit
set_option linter.unusedVariables false
set_option linter.unusedSimpArgs false

theorem OwnV.lower {base b2 : Nat} {w : World} {v : Value} {l : List Ver} (h : OwnV base w v l) (k : b2 ≤ base) : OwnV b2 w v l := by
  obtain ⟨o1, o2⟩ := h
  refine ⟨o1, ?_⟩
  rcases o2 with h | ⟨g, cap, cur, e, hb, r⟩
  · exact .inl h
  · exact .inr ⟨g, cap, cur, e, Nat.le_trans k hb, r⟩
theorem add_add (a : Addr) (m n : Nat) : (a.add m).add n = a.add (m + n) := by
  by_cases hm : m = 0
  · subst hm
    rw [show a.add 0 = a by cases a; simp [Addr.add], Nat.zero_add]
  · by_cases hn : n = 0
    · subst hn
      rw [Nat.add_zero]
      rw [add_pos a (by omega : 0 < m)]
      simp [Addr.add]
    · rw [add_pos a (by omega : 0 < m), add_pos _ (by omega : 0 < n), add_pos a (by omega : 0 < m + n)]
      simp [Nat.add_assoc]
/-- The first versions of a chain, and those behind. -/
theorem Vers.cutTake {w : World} {B : Nat} {a : Addr} {n c : Nat} {l : List Ver} (h : Vers w B (.slice (some a) n c) l) {i : Nat} (hi : i ≤ l.length) : Vers w B (.slice (some a) i c) (l.take i) := by
  obtain ⟨A, c', e, e0, ez, eo, f⟩ := h
  injection e with e1 e2 e3
  subst e1 e2 e3
  have hlen : (l.take i).length = i := by rw [List.length_take]; omega
  refine ⟨_, _, by rw [hlen], by omega, ez, fun x hx => eo x (List.mem_of_mem_take hx), fun k hk => ?_⟩
  obtain ⟨a', e1, e2, e3⟩ := f k (by omega)
  exact ⟨a', e1, e2, by rw [List.getElem_take]; exact e3⟩
theorem Vers.cutDrop {w : World} {B : Nat} {a : Addr} {n c : Nat} {l : List Ver} (h : Vers w B (.slice (some a) n c) l) {i : Nat} (hi : i ≤ l.length) : Vers w B (.slice (some (a.add (i * 4))) (l.length - i) (c - i)) (l.drop i) := by
  obtain ⟨A, c', e, e0, ez, eo, f⟩ := h
  injection e with e1 e2 e3
  subst e1 e2 e3
  have hlen : (l.drop i).length = l.length - i := by rw [List.length_drop]
  refine ⟨_, _, by rw [hlen], by omega, (by simp), fun x hx => eo x (List.mem_of_mem_drop hx), fun k hk => ?_⟩
  rw [hlen] at hk
  obtain ⟨a', e1, e2, e3⟩ := f (i + k) (by omega)
  injection e1 with e1
  subst e1
  refine ⟨_, rfl, by rw [add_block]; exact e2, ?_⟩
  rw [add_add, List.getElem_drop, ← Nat.add_mul]; exact e3
theorem Vers.cutEnd {w : World} {B : Nat} {a : Addr} {l : List Ver} (hl : l = []) : Vers w B (.slice (some a) 0 0) l := by
  subst hl
  exact ⟨_, _, rfl, Nat.le_refl _, (by simp), by simp, fun k h => absurd h (by simp)⟩
set_option maxHeartbeats 4000000 in
set_option maxRecDepth 100000 in
theorem without_atEnd (l : List Ver) (a : Addr) (c : Nat) (i : Nat) (w : World) (hi : i < l.length) (hl : l.length ≤ 1000) (ht : Vers w w.heap.size (.slice (some a) l.length c) l) (hc : c = i + 1) :
    Calls Try.prog 34 #[.slice (some a) l.length c, .int .i64 (i : Nat)] w fun e w' => ∃ v', e = .returned v' ∧ OwnV w.heap.size w' v' (l.take i ++ l.drop (i + 1)) ∧ Q w w' := by
  have hlc : l.length ≤ c := by
    obtain ⟨A, c', e, e0, -⟩ := ht
    injection e with e1 e2 e3
    omega
  have T1 := Lib.hid (ht.cutTake (i := i) (by omega))
  subst hc
  have T2 : Hid (Vers w w.heap.size (.slice (some a) 0 0) (l.drop (i + 1))) := Lib.hid (by exact Vers.cutEnd (List.drop_eq_nil_iff.2 (by omega)))
  have q0 : Q w w.drew := (Q.refl w).drew
  have SN : Hid ((fun w' => Q w w') w.drew) := Lib.hid q0
  have hw2 : IntKind.i64.wrap ((i : Int) + 1) = (i : Int) + 1 := by rw [IntKind.wrap_i64]; omega
  have hw : wrap64 ((i : Int) + 1) = (i : Int) + 1 := by unfold wrap64; omega
  have hi0 : (0 : Int) ≤ (i : Int) := by omega
  have hi1 : (i : Int) ≤ ((i + 1 : Nat) : Int) := by omega
  have hi2 : (0 : Int) ≤ (i : Int) + 1 := by omega
  have hi3 : (i : Int) + 1 ≤ (l.length : Int) := by omega
  have hn1 : ((i : Int) + 1).toNat = i + 1 := by omega
  clear ht
  go_enter Try.func34, Try.ntmps34
  go_wp2_with fail
  refine wp_region_held_drew (S := (fun w' => Q w w')) (by kernel_rfl) SN.out (fun hHeld => ?_)
  refine wpAnyH_take (i := 0) (oi := _) (v := ?_) rfl (by kernel_rfl) (by kernel_rfl) (by kernel_rfl) (fun _ _ _ h => h) (Or.inl ⟨by rfl, ?_⟩) (by assumption) ?_
  rotate_left
  · (intro wx hSw; (try dsimp only at hSw); go_simp; (try with_reducible rfl))
  (try simp only [Act.put, List.getElem_toArray, List.getElem_cons_zero, List.getElem_cons_succ, List.setIfInBounds_toArray, List.set_cons_zero, List.set_cons_succ])
  refine wpAnyH_take (i := 1) (oi := _) (v := ?_) rfl (by kernel_rfl) (by kernel_rfl) (by kernel_rfl) (fun _ _ _ h => h) (Or.inl ⟨by rfl, ?_⟩) (by assumption) ?_
  rotate_left
  · (intro wx hSw; (try dsimp only at hSw); go_simp; (try with_reducible rfl))
  (try simp only [Act.put, List.getElem_toArray, List.getElem_cons_zero, List.getElem_cons_succ, List.setIfInBounds_toArray, List.set_cons_zero, List.set_cons_succ])
  refine wpAnyH_take (i := 2) (oi := _) (v := .slice (some a) i (i + 1)) rfl (by kernel_rfl) (by kernel_rfl) (by kernel_rfl) (fun _ _ _ h => h) (Or.inl ⟨by rfl, ?_⟩) (by assumption) ?_
  · (intro wx hSw; (try dsimp only at hSw); go_simp; (try omega); (try simp [*]); (try omega))
  (try simp only [Act.put, List.getElem_toArray, List.getElem_cons_zero, List.getElem_cons_succ, List.setIfInBounds_toArray, List.set_cons_zero, List.set_cons_succ])
  refine wpAnyH_take (i := 3) (oi := _) (v := ?_) rfl (by kernel_rfl) (by kernel_rfl) (by kernel_rfl) (fun _ _ _ h => h) (Or.inl ⟨by rfl, ?_⟩) (by assumption) ?_
  rotate_left
  · (intro wx hSw; (try dsimp only at hSw); go_simp; (try with_reducible rfl))
  (try simp only [Act.put, List.getElem_toArray, List.getElem_cons_zero, List.getElem_cons_succ, List.setIfInBounds_toArray, List.set_cons_zero, List.set_cons_succ])
  refine wpAnyH_take (i := 4) (oi := _) (v := ?_) rfl (by kernel_rfl) (by kernel_rfl) (by kernel_rfl) (fun _ _ _ h => h) (Or.inl ⟨by rfl, ?_⟩) (by assumption) ?_
  rotate_left
  · (intro wx hSw; (try dsimp only at hSw); go_simp; (try with_reducible rfl))
  (try simp only [Act.put, List.getElem_toArray, List.getElem_cons_zero, List.getElem_cons_succ, List.setIfInBounds_toArray, List.set_cons_zero, List.set_cons_succ])
  refine wpAnyH_take (i := 5) (oi := _) (v := .int .i64 ((i : Int) + 1)) rfl (by kernel_rfl) (by kernel_rfl) (by kernel_rfl) (fun _ _ _ h => h) (Or.inl ⟨by rfl, ?_⟩) (by assumption) ?_
  · (intro wx hSw; (try dsimp only at hSw); go_simp; (try omega); (try simp [*]); (try omega))
  (try simp only [Act.put, List.getElem_toArray, List.getElem_cons_zero, List.getElem_cons_succ, List.setIfInBounds_toArray, List.set_cons_zero, List.set_cons_succ])
  refine wpAnyH_take (i := 6) (oi := _) (v := .slice (some a) 0 0) rfl (by kernel_rfl) (by kernel_rfl) (by kernel_rfl) (fun _ _ _ h => h) (Or.inl ⟨by rfl, ?_⟩) (by assumption) ?_
  · (intro wx hSw; (try dsimp only at hSw); go_simp; (try omega); (try simp [*]); (try omega))
  (try simp only [Act.put, List.getElem_toArray, List.getElem_cons_zero, List.getElem_cons_succ, List.setIfInBounds_toArray, List.set_cons_zero, List.set_cons_succ])
  refine wpAnyH_ready (rs := [7]) (by kernel_rfl) (by simp) ?_
  refine AllReadyH.cons (o := _) rfl (fun K hK => ?_) AllReadyH.nil
  go_simp
  refine hK.out _ _ ((Q.refl w).alloc _).drew (fun hHeld => ?_)
  clear hK K
  (try simp only [Act.put, List.getElem_toArray, List.getElem_cons_zero, List.getElem_cons_succ, List.setIfInBounds_toArray, List.set_cons_zero, List.set_cons_succ])
  refine wpAnyH_ready (rs := [8]) (by kernel_rfl) (by simp) ?_
  refine AllReadyH.cons (o := _) rfl (fun K hK => ?_) AllReadyH.nil
  go_simp
  go_at_call 40
  refine (concat_any w.heap.size _ _ (l.take i) (l.drop (i + 1)) (w.alloc (.cells #[.slice (some a) i (i + 1), .slice (some a) 0 0] 64)).drew (by simp [go_sem]) (by simp [go_sem]) (by simp) (T1.out.on ((Q.refl w).alloc _).drew) (T2.out.on ((Q.refl w).alloc _).drew) (by rw [List.length_take]; omega) (by rw [List.length_drop]; omega)).mono ?_
  rintro e w' ⟨v', rfl, ho, q1⟩
  have qq := ((Q.refl w).alloc _).drew.trans q1
  refine hK.out _ _ qq (fun hHeld => ?_)
  clear hK K
  (try simp only [Act.put, List.getElem_toArray, List.getElem_cons_zero, List.getElem_cons_succ, List.setIfInBounds_toArray, List.set_cons_zero, List.set_cons_succ])
  refine wpAnyH_take (i := 9) (oi := _) (v := ?_) rfl (by kernel_rfl) (by kernel_rfl) (by kernel_rfl) (fun _ _ _ h => h) (Or.inl ⟨by rfl, ?_⟩) (by assumption) ?_
  rotate_left
  · (intro wx hSw; (try dsimp only at hSw); go_simp; (try with_reducible rfl))
  (try simp only [Act.put, List.getElem_toArray, List.getElem_cons_zero, List.getElem_cons_succ, List.setIfInBounds_toArray, List.set_cons_zero, List.set_cons_succ])
  refine wpAnyH_done (by kernel_rfl) ?_ _
  go_wp2
  go_ret
  exact ⟨_, rfl, OwnV.lower ho (by simp), qq⟩
set_option maxHeartbeats 4000000 in
set_option maxRecDepth 100000 in
theorem without_atIn (l : List Ver) (a : Addr) (c : Nat) (i : Nat) (w : World) (hi : i < l.length) (hl : l.length ≤ 1000) (ht : Vers w w.heap.size (.slice (some a) l.length c) l) (hc : c ≠ i + 1) :
    Calls Try.prog 34 #[.slice (some a) l.length c, .int .i64 (i : Nat)] w fun e w' => ∃ v', e = .returned v' ∧ OwnV w.heap.size w' v' (l.take i ++ l.drop (i + 1)) ∧ Q w w' := by
  have hlc : l.length ≤ c := by
    obtain ⟨A, c', e, e0, -⟩ := ht
    injection e with e1 e2 e3
    omega
  have T1 := Lib.hid (ht.cutTake (i := i) (by omega))
  have T2 := Lib.hid (ht.cutDrop (i := i + 1) (by omega))
  have q0 : Q w w.drew := (Q.refl w).drew
  have SN : Hid ((fun w' => Q w w') w.drew) := Lib.hid q0
  have hw2 : IntKind.i64.wrap ((i : Int) + 1) = (i : Int) + 1 := by rw [IntKind.wrap_i64]; omega
  have hw : wrap64 ((i : Int) + 1) = (i : Int) + 1 := by unfold wrap64; omega
  have hi0 : (0 : Int) ≤ (i : Int) := by omega
  have hi1 : (i : Int) ≤ ((c : Nat) : Int) := by omega
  have hi2 : (0 : Int) ≤ (i : Int) + 1 := by omega
  have hi3 : (i : Int) + 1 ≤ (l.length : Int) := by omega
  have hn1 : ((i : Int) + 1).toNat = i + 1 := by omega
  clear ht
  go_enter Try.func34, Try.ntmps34
  go_wp2_with fail
  refine wp_region_held_drew (S := (fun w' => Q w w')) (by kernel_rfl) SN.out (fun hHeld => ?_)
  refine wpAnyH_take (i := 0) (oi := _) (v := ?_) rfl (by kernel_rfl) (by kernel_rfl) (by kernel_rfl) (fun _ _ _ h => h) (Or.inl ⟨by rfl, ?_⟩) (by assumption) ?_
  rotate_left
  · (intro wx hSw; (try dsimp only at hSw); go_simp; (try with_reducible rfl))
  (try simp only [Act.put, List.getElem_toArray, List.getElem_cons_zero, List.getElem_cons_succ, List.setIfInBounds_toArray, List.set_cons_zero, List.set_cons_succ])
  refine wpAnyH_take (i := 1) (oi := _) (v := ?_) rfl (by kernel_rfl) (by kernel_rfl) (by kernel_rfl) (fun _ _ _ h => h) (Or.inl ⟨by rfl, ?_⟩) (by assumption) ?_
  rotate_left
  · (intro wx hSw; (try dsimp only at hSw); go_simp; (try with_reducible rfl))
  (try simp only [Act.put, List.getElem_toArray, List.getElem_cons_zero, List.getElem_cons_succ, List.setIfInBounds_toArray, List.set_cons_zero, List.set_cons_succ])
  refine wpAnyH_take (i := 2) (oi := _) (v := .slice (some a) i c) rfl (by kernel_rfl) (by kernel_rfl) (by kernel_rfl) (fun _ _ _ h => h) (Or.inl ⟨by rfl, ?_⟩) (by assumption) ?_
  · (intro wx hSw; (try dsimp only at hSw); go_simp; (try omega); (try simp [*]); (try omega))
  (try simp only [Act.put, List.getElem_toArray, List.getElem_cons_zero, List.getElem_cons_succ, List.setIfInBounds_toArray, List.set_cons_zero, List.set_cons_succ])
  refine wpAnyH_take (i := 3) (oi := _) (v := ?_) rfl (by kernel_rfl) (by kernel_rfl) (by kernel_rfl) (fun _ _ _ h => h) (Or.inl ⟨by rfl, ?_⟩) (by assumption) ?_
  rotate_left
  · (intro wx hSw; (try dsimp only at hSw); go_simp; (try with_reducible rfl))
  (try simp only [Act.put, List.getElem_toArray, List.getElem_cons_zero, List.getElem_cons_succ, List.setIfInBounds_toArray, List.set_cons_zero, List.set_cons_succ])
  refine wpAnyH_take (i := 4) (oi := _) (v := ?_) rfl (by kernel_rfl) (by kernel_rfl) (by kernel_rfl) (fun _ _ _ h => h) (Or.inl ⟨by rfl, ?_⟩) (by assumption) ?_
  rotate_left
  · (intro wx hSw; (try dsimp only at hSw); go_simp; (try with_reducible rfl))
  (try simp only [Act.put, List.getElem_toArray, List.getElem_cons_zero, List.getElem_cons_succ, List.setIfInBounds_toArray, List.set_cons_zero, List.set_cons_succ])
  refine wpAnyH_take (i := 5) (oi := _) (v := .int .i64 ((i : Int) + 1)) rfl (by kernel_rfl) (by kernel_rfl) (by kernel_rfl) (fun _ _ _ h => h) (Or.inl ⟨by rfl, ?_⟩) (by assumption) ?_
  · (intro wx hSw; (try dsimp only at hSw); go_simp; (try omega); (try simp [*]); (try omega))
  (try simp only [Act.put, List.getElem_toArray, List.getElem_cons_zero, List.getElem_cons_succ, List.setIfInBounds_toArray, List.set_cons_zero, List.set_cons_succ])
  refine wpAnyH_take (i := 6) (oi := _) (v := .slice (some (a.add ((i + 1) * 4))) (l.length - (i + 1)) (c - (i + 1))) rfl (by kernel_rfl) (by kernel_rfl) (by kernel_rfl) (fun _ _ _ h => h) (Or.inl ⟨by rfl, ?_⟩) (by assumption) ?_
  · (intro wx hSw; (try dsimp only at hSw); go_simp; (try omega); (try simp [*]); (try omega))
  (try simp only [Act.put, List.getElem_toArray, List.getElem_cons_zero, List.getElem_cons_succ, List.setIfInBounds_toArray, List.set_cons_zero, List.set_cons_succ])
  refine wpAnyH_ready (rs := [7]) (by kernel_rfl) (by simp) ?_
  refine AllReadyH.cons (o := _) rfl (fun K hK => ?_) AllReadyH.nil
  go_simp
  refine hK.out _ _ ((Q.refl w).alloc _).drew (fun hHeld => ?_)
  clear hK K
  (try simp only [Act.put, List.getElem_toArray, List.getElem_cons_zero, List.getElem_cons_succ, List.setIfInBounds_toArray, List.set_cons_zero, List.set_cons_succ])
  refine wpAnyH_ready (rs := [8]) (by kernel_rfl) (by simp) ?_
  refine AllReadyH.cons (o := _) rfl (fun K hK => ?_) AllReadyH.nil
  go_simp
  go_at_call 40
  refine (concat_any w.heap.size _ _ (l.take i) (l.drop (i + 1)) (w.alloc (.cells #[.slice (some a) i c, .slice (some (a.add ((i + 1) * 4))) (l.length - (i + 1)) (c - (i + 1))] 64)).drew (by simp [go_sem]) (by simp [go_sem]) (by simp) (T1.out.on ((Q.refl w).alloc _).drew) (T2.out.on ((Q.refl w).alloc _).drew) (by rw [List.length_take]; omega) (by rw [List.length_drop]; omega)).mono ?_
  rintro e w' ⟨v', rfl, ho, q1⟩
  have qq := ((Q.refl w).alloc _).drew.trans q1
  refine hK.out _ _ qq (fun hHeld => ?_)
  clear hK K
  (try simp only [Act.put, List.getElem_toArray, List.getElem_cons_zero, List.getElem_cons_succ, List.setIfInBounds_toArray, List.set_cons_zero, List.set_cons_succ])
  refine wpAnyH_take (i := 9) (oi := _) (v := ?_) rfl (by kernel_rfl) (by kernel_rfl) (by kernel_rfl) (fun _ _ _ h => h) (Or.inl ⟨by rfl, ?_⟩) (by assumption) ?_
  rotate_left
  · (intro wx hSw; (try dsimp only at hSw); go_simp; (try with_reducible rfl))
  (try simp only [Act.put, List.getElem_toArray, List.getElem_cons_zero, List.getElem_cons_succ, List.setIfInBounds_toArray, List.set_cons_zero, List.set_cons_succ])
  refine wpAnyH_done (by kernel_rfl) ?_ _
  go_wp2
  go_ret
  exact ⟨_, rfl, OwnV.lower ho (by simp), qq⟩
theorem without_any (l : List Ver) (v : Value) (i : Nat) (w : World) (hi : i < l.length) (hl : l.length ≤ 1000) (ht : Vers w w.heap.size v l) :
    Calls Try.prog 34 #[v, .int .i64 (i : Nat)] w fun e w' => ∃ v', e = .returned v' ∧ OwnV w.heap.size w' v' (l.take i ++ l.drop (i + 1)) ∧ Q w w' := by
  have ht' := ht
  obtain ⟨A, c, rfl, -, -, -, f⟩ := ht
  obtain ⟨a, rfl, -⟩ := f i hi
  by_cases hc : c = i + 1
  · exact without_atEnd l a c i w hi hl ht' hc
  · exact without_atIn l a c i w hi hl ht' hc
end Go.Proofs.Ytflfhigldkdlmaa
