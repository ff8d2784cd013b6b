/-
  Contract of the statements' Few of an index.
-/
import Derived.Test.YtipipjpdlblifaaEnt
import Derived.Deep.RegionHeld3
namespace Go.Proofs.Ytipipjpdlblifaa
open Go.ChangeShapes Go.WideShapes Go.ChangeAt Go.RowKit
set_option linter.unusedVariables false
set_option linter.unusedSimpArgs false

def oneE (e : Ent) : Ent := ⟨fewS e.key, fewV e.L⟩
def fewE (l : List Ent) : List Ent := (l.take 61).map oneE
theorem fewE_take (l : List Ent) (i : Nat) (h : i < l.length) : (l.take (i + 1)).map oneE = (l.take i).map oneE ++ [oneE l[i]] := by
  rw [List.take_succ_eq_append_getElem h, List.map_append]; rfl
theorem OwnV.low {base b2 : Nat} {w : World} {v : Value} {l : List Ver} (h : OwnV base w v l) (k : b2 ≤ base) : OwnV b2 w v l := by
  rcases h.2 with ⟨rfl, h0⟩ | ⟨g, cap, cur, rfl, hb, r⟩
  · exact ⟨h.1, .inl ⟨rfl, h0⟩⟩
  · exact ⟨h.1, .inr ⟨g, cap, cur, rfl, by omega, r⟩⟩
theorem fewV_len (l : List Ver) : (fewV l).length ≤ 21 := by rw [fewV, List.length_map, List.length_take]; omega
theorem fewV_okV {l : List Ver} (h : ∀ x ∈ l, okV x) : ∀ x ∈ fewV l, okV x := by
  intro x hx
  rw [fewV, List.mem_map] at hx
  obtain ⟨y, hy, rfl⟩ := hx
  exact oneV_ok (h y (List.mem_of_mem_take hy))
set_option maxHeartbeats 4000000 in
set_option maxRecDepth 100000 in
theorem fewE_any (l : List Ent) (v : Value) (w : World) (hl : l.length ≤ maxLen) (ht : Ents w w.heap.size v l) :
    Calls Try.prog 22 #[v] w fun e w' => ∃ v', e = .returned v' ∧ OwnE w.heap.size w' v' (fewE l) ∧ Q w w' := by
  obtain ⟨A, c, rfl, -, -, hok, hcells⟩ := ht
  unfold maxLen at hl
  have HC := Lib.hid hcells
  have HK := Lib.hid hok
  clear hcells hok
  obtain ⟨i0, hi, hz0, hz1, hz2⟩ := info_parts info_ent
  go_enter Try.func22, Try.ntmps22
  go_wp2_with fail
  go_loopw [3, 4] (fun O I wr => ∃ i : Nat, i ≤ l.length ∧ i ≤ 61 ∧ I = .int .i64 i ∧ OwnE w.heap.size wr O ((l.take i).map oneE) ∧ Q w wr) (fun _ I _ => 61 - (intOf I).toNat)
  case atStart => exact ⟨0, Nat.zero_le _, by omega, rfl, OwnE.nil _ _, Q.refl _⟩
  case round =>
    obtain ⟨i, hil, hi61, rfl, hown, hbel⟩ := hrel
    by_cases hlt : i < l.length
    · by_cases h61 : i < 61
      · obtain ⟨a, rfl, ha, hat⟩ := HC.out i hlt
        have HW := Lib.hid (fewE_take l i hlt)
        have hx0 := HK.out _ (List.getElem_mem hlt)
        have hlen : ((l.take i).map oneE).length ≤ 61 := by rw [List.length_map, List.length_take]; omega
        obtain ⟨x, hx⟩ : ∃ x, x = l[i] := ⟨_, rfl⟩
        rw [← hx] at hat HW hx0
        clear hx
        obtain ⟨u, hu⟩ : ∃ u, w.cell? ⟨(a.add (i * 2)).block, (a.add (i * 2)).off + 1, none⟩ = some u ∧ Vers w w.heap.size u x.L := hat.2
        obtain ⟨hu1, hu2⟩ := hu
        have HV := Lib.hid hu2.okAll'
        have hu0 := hat.1
        obtain ⟨A2, n2, c2, rfl⟩ : ∃ A n c, u = .slice A n c := by obtain ⟨A, c, e⟩ := hu2.form; exact ⟨A, _, c, e⟩
        have KS : Hid (∀ d, Q w d → (fun w' => w'.cell? (a.add (i * 2)) = some (.string x.key) ∧ w'.cell? ⟨(a.add (i * 2)).block, (a.add (i * 2)).off + 1, none⟩ = some (.slice A2 n2 c2) ∧ Q w w') d) := Lib.hid (fun d q => ⟨(q.cell (p := a.add (i * 2)) (by rw [add_block]; exact ha)).trans hu0, (q.cell (p := ⟨(a.add (i * 2)).block, (a.add (i * 2)).off + 1, none⟩) (by show (a.add (i * 2)).block < _; rw [add_block]; exact ha)).trans hu1, q⟩)
        have FS := Lib.hid fun d => fewS_any x.key d hx0.1
        have FV : Hid (∀ d, Q w d → Calls Try.prog 39 #[.slice A2 n2 c2] d fun e w' => ∃ v', e = .returned v' ∧ OwnV d.heap.size w' v' (fewV x.L) ∧ Q d w') := Lib.hid (fun d q => few_any x.L _ d hx0.2 (hu2.on q))
        have hilt : (i : Int) < (l.length : Int) := by omega
        have hi61' : (i : Int) < 61 := by omega
        clear hat hu0 hu1 hu2
        go_wp2_with fail
        refine wp_region_held_drew (S := (fun w' => w'.cell? (a.add (i * 2)) = some (.string x.key) ∧ w'.cell? ⟨(a.add (i * 2)).block, (a.add (i * 2)).off + 1, none⟩ = some (.slice A2 n2 c2) ∧ Q w w')) (by kernel_rfl) (KS.out _ hbel.drew) (fun hHeld => ?_)
        refine wpAnyH_take (i := 0) (oi := _) (v := ?_) rfl (by kernel_rfl) (by kernel_rfl) (by kernel_rfl) (fun _ _ _ h => h) (Or.inl ⟨by rfl, ?_⟩) (by assumption) ?_
        rotate_left
        · (intro wx hSw; (try dsimp only at hSw); go_simp; (try with_reducible rfl))
        (try simp only [Act.put, List.getElem_toArray, List.getElem_cons_zero, List.getElem_cons_succ, List.setIfInBounds_toArray, List.set_cons_zero, List.set_cons_succ])
        refine wpAnyH_take (i := 1) (oi := _) (v := ?_) rfl (by kernel_rfl) (by kernel_rfl) (by kernel_rfl) (fun _ _ _ h => h) (Or.inl ⟨by rfl, ?_⟩) (by assumption) ?_
        rotate_left
        · (intro wx hSw; (try dsimp only at hSw); go_simp; (try with_reducible rfl))
        (try simp only [Act.put, List.getElem_toArray, List.getElem_cons_zero, List.getElem_cons_succ, List.setIfInBounds_toArray, List.set_cons_zero, List.set_cons_succ])
        refine wpAnyH_take (i := 2) (oi := _) (v := ?_) rfl (by kernel_rfl) (by kernel_rfl) (by kernel_rfl) (fun _ _ _ h => h) (Or.inl ⟨by rfl, ?_⟩) (by assumption) ?_
        rotate_left
        · (intro wx hSw; (try dsimp only at hSw); go_simp; (try with_reducible rfl))
        (try simp only [Act.put, List.getElem_toArray, List.getElem_cons_zero, List.getElem_cons_succ, List.setIfInBounds_toArray, List.set_cons_zero, List.set_cons_succ])
        refine wpAnyH_take (i := 3) (oi := _) (v := ?_) rfl (by kernel_rfl) (by kernel_rfl) (by kernel_rfl) (fun _ _ _ h => h) (Or.inl ⟨by rfl, ?_⟩) (by assumption) ?_
        rotate_left
        · (intro wx hSw; (try dsimp only at hSw); go_simp; (try with_reducible rfl))
        (try simp only [Act.put, List.getElem_toArray, List.getElem_cons_zero, List.getElem_cons_succ, List.setIfInBounds_toArray, List.set_cons_zero, List.set_cons_succ])
        refine wpAnyH_take (i := 4) (oi := _) (v := ?_) rfl (by kernel_rfl) (by kernel_rfl) (by kernel_rfl) (fun _ _ _ h => h) (Or.inl ⟨by rfl, ?_⟩) (by assumption) ?_
        rotate_left
        · (intro wx hSw; (try dsimp only at hSw); go_simp; (try with_reducible rfl))
        (try simp only [Act.put, List.getElem_toArray, List.getElem_cons_zero, List.getElem_cons_succ, List.setIfInBounds_toArray, List.set_cons_zero, List.set_cons_succ])
        refine wpAnyH_take (i := 5) (oi := _) (v := ?_) rfl (by kernel_rfl) (by kernel_rfl) (by kernel_rfl) (fun _ _ _ h => h) (Or.inl ⟨by rfl, ?_⟩) (by assumption) ?_
        rotate_left
        · (intro wx hSw; (try dsimp only at hSw); go_simp; (try with_reducible rfl))
        (try simp only [Act.put, List.getElem_toArray, List.getElem_cons_zero, List.getElem_cons_succ, List.setIfInBounds_toArray, List.set_cons_zero, List.set_cons_succ])
        refine wpAnyH_take (i := 7) (oi := _) (v := ?_) rfl (by kernel_rfl) (by kernel_rfl) (by kernel_rfl) (fun _ _ _ h => h) (Or.inl ⟨by rfl, ?_⟩) (by assumption) ?_
        rotate_left
        · (intro wx hSw; (try dsimp only at hSw); go_simp; (try with_reducible rfl))
        (try simp only [Act.put, List.getElem_toArray, List.getElem_cons_zero, List.getElem_cons_succ, List.setIfInBounds_toArray, List.set_cons_zero, List.set_cons_succ])
        refine wpAnyH_take (i := 8) (oi := _) (v := ?_) rfl (by kernel_rfl) (by kernel_rfl) (by kernel_rfl) (fun _ _ _ h => h) (Or.inl ⟨by rfl, ?_⟩) (by assumption) ?_
        rotate_left
        · (intro wx hSw; (try dsimp only at hSw); go_simp; (try with_reducible rfl))
        (try simp only [Act.put, List.getElem_toArray, List.getElem_cons_zero, List.getElem_cons_succ, List.setIfInBounds_toArray, List.set_cons_zero, List.set_cons_succ])
        refine wpAnyH_take (i := 9) (oi := _) (v := ?_) rfl (by kernel_rfl) (by kernel_rfl) (by kernel_rfl) (fun _ _ _ h => h) (Or.inl ⟨by rfl, ?_⟩) (by assumption) ?_
        rotate_left
        · (intro wx hSw; (try dsimp only at hSw); go_simp; (try with_reducible rfl))
        (try simp only [Act.put, List.getElem_toArray, List.getElem_cons_zero, List.getElem_cons_succ, List.setIfInBounds_toArray, List.set_cons_zero, List.set_cons_succ])
        refine wpAnyH_take (i := 10) (oi := _) (v := ?_) rfl (by kernel_rfl) (by kernel_rfl) (by kernel_rfl) (fun _ _ _ h => h) (Or.inl ⟨by rfl, ?_⟩) (by assumption) ?_
        rotate_left
        · (intro wx hSw; (try dsimp only at hSw); go_simp; (try with_reducible rfl))
        (try simp only [Act.put, List.getElem_toArray, List.getElem_cons_zero, List.getElem_cons_succ, List.setIfInBounds_toArray, List.set_cons_zero, List.set_cons_succ])
        refine wpAnyH_take (i := 11) (oi := _) (v := ?_) rfl (by kernel_rfl) (by kernel_rfl) (by kernel_rfl) (fun _ _ _ h => h) (Or.inl ⟨by rfl, ?_⟩) (by assumption) ?_
        rotate_left
        · (intro wx hSw; (try dsimp only at hSw); go_simp; (try with_reducible rfl))
        (try simp only [Act.put, List.getElem_toArray, List.getElem_cons_zero, List.getElem_cons_succ, List.setIfInBounds_toArray, List.set_cons_zero, List.set_cons_succ])
        refine wpAnyH_ready (rs := [6]) (by kernel_rfl) (by simp) ?_
        refine AllReadyH.cons (o := _) rfl (fun K hK => ?_) AllReadyH.nil
        go_simp
        go_at_call 24
        refine (FS.out _).mono ?_
        rintro e wa ⟨rfl, rfl⟩
        refine hK.out _ _ (KS.out _ hbel.drew) (fun hHeld => ?_)
        clear hK K
        (try simp only [Act.put, List.getElem_toArray, List.getElem_cons_zero, List.getElem_cons_succ, List.setIfInBounds_toArray, List.set_cons_zero, List.set_cons_succ])
        refine wpAnyH_ready (rs := [12]) (by kernel_rfl) (by simp) ?_
        refine AllReadyH.cons (o := _) rfl (fun K hK => ?_) AllReadyH.nil
        go_simp
        go_at_call 39
        refine (FV.out _ hbel.drew).mono ?_
        rintro e wb ⟨v5, rfl, o5, q5⟩
        obtain ⟨A5, n5, c5, rfl⟩ : ∃ A n c, v5 = .slice A n c := by obtain ⟨A, c, e⟩ := own_len o5; exact ⟨A, _, c, e⟩
        have b5 : Q w wb := hbel.drew.trans q5
        refine hK.out _ _ (KS.out _ b5) (fun hHeld => ?_)
        clear hK K
        (try simp only [Act.put, List.getElem_toArray, List.getElem_cons_zero, List.getElem_cons_succ, List.setIfInBounds_toArray, List.set_cons_zero, List.set_cons_succ])
        refine wpAnyH_take (i := 13) (oi := _) (v := ?_) rfl (by kernel_rfl) (by kernel_rfl) (by kernel_rfl) (fun _ _ _ h => h) (Or.inl ⟨by rfl, ?_⟩) (by assumption) ?_
        rotate_left
        · (intro wx hSw; (try dsimp only at hSw); go_simp; (try with_reducible rfl))
        (try simp only [Act.put, List.getElem_toArray, List.getElem_cons_zero, List.getElem_cons_succ, List.setIfInBounds_toArray, List.set_cons_zero, List.set_cons_succ])
        refine wpAnyH_ready (rs := [14]) (by kernel_rfl) (by simp) ?_
        refine AllReadyH.cons (o := _) rfl (fun K hK => ?_) AllReadyH.nil
        go_simp
        refine hK.out _ _ (KS.out _ (b5.alloc _)) (fun hHeld => ?_)
        clear hK K
        (try simp only [Act.put, List.getElem_toArray, List.getElem_cons_zero, List.getElem_cons_succ, List.setIfInBounds_toArray, List.set_cons_zero, List.set_cons_succ])
        refine wpAnyH_ready (rs := [15]) (by kernel_rfl) (by simp) ?_
        refine AllReadyH.cons (o := _) rfl (fun K hK => ?_) AllReadyH.nil
        rw [if_pos (by rfl)]
        have hs := b5.size
        obtain ⟨P, hP, hr, hf⟩ := OwnE.on hown ((Q.refl wr).drew.trans q5) hbel.size
        have hPl : P.length ≤ 61 := by rw [← List.length_map (f := (·.1)), hP]; exact hlen
        have ap5 : Apt w.heap.size wb (.slice A5 n5 c5) (fewV x.L) := ⟨fewV_okV HV.out, by have := fewV_len x.L; unfold maxLen; omega, .inr (OwnV.low o5 (by simpa using hbel.size))⟩
        refine wp_append_own _ _ _ 22 rfl w.heap.size 61 i0 (.agg #[.string ⟨#[]⟩, .slice none 0 0]) 2 40 Try.underlying22 hi hz0 hz1 hz2 rfl (by decide) _ _ _ rfl (World.ownsRow.alloc hr _) ⟨wb.heap.size, 0, none⟩ 1 1 (pcells (oneE x, .slice A5 n5 c5)) rfl rfl (cells_oneP wb (oneE x, .slice A5 n5 c5) _) (pcells_one ⟨_, _, _, rfl⟩) (by unfold maxLen; omega) (by omega) (by simp; omega) ?_
        intro v6 wc h1 h2 _
        have hfa : ∀ q ∈ P, q.1.key.size ≤ maxLen ∧ Apt w.heap.size (wb.alloc (.cells #[.string (fewS x.key), .slice A5 n5 c5] 61)) q.2 q.1.L := fun q hq => ⟨(hf q hq).1, (hf q hq).2.on ((Q.refl wb).alloc _) hs⟩
        have r6 : OwnE w.heap.size wc v6 _ := OwnE.snoc (p := (oneE x, .slice A5 n5 c5)) (RowE.on hr ((Q.refl wb).alloc _)) hfa (by have := fewS_size x.key; unfold maxLen; show (fewS x.key).size ≤ _; omega) (ap5.on ((Q.refl wb).alloc _) hs) (by simpa using h1) h2 (by simp; omega)
        rw [hP, ← HW.out] at r6
        have b6 : Q w wc := rowE_grown (b5.alloc _) (by simp; omega) (RowE.on hr ((Q.refl wb).alloc _)) h2
        clear h1 h2 hfa ap5
        refine hK.out _ _ (KS.out _ b6) (fun hHeld => ?_)
        clear hK K
        (try simp only [Act.put, List.getElem_toArray, List.getElem_cons_zero, List.getElem_cons_succ, List.setIfInBounds_toArray, List.set_cons_zero, List.set_cons_succ])
        refine wpAnyH_take (i := 16) (oi := _) (v := ?_) rfl (by kernel_rfl) (by kernel_rfl) (by kernel_rfl) (fun _ _ _ h => h) (Or.inl ⟨by rfl, ?_⟩) (by assumption) ?_
        rotate_left
        · (intro wx hSw; (try dsimp only at hSw); go_simp; (try with_reducible rfl))
        (try simp only [Act.put, List.getElem_toArray, List.getElem_cons_zero, List.getElem_cons_succ, List.setIfInBounds_toArray, List.set_cons_zero, List.set_cons_succ])
        refine wpAnyH_done (by kernel_rfl) ?_ _
        go_wp2_with fail
        go_roundw
        case rel => exact ⟨i + 1, by omega, by omega, by go_num, r6, b6⟩
        case measure => simp [intOf]; omega
      · have HW : Hid (fewE l = (l.take i).map oneE) := Lib.hid (by rw [fewE, show i = 61 by omega])
        have h2 : ¬ (i : Int) < 61 := by omega
        go_wp2
        go_ret
        exact ⟨_, rfl, by rw [HW.out]; exact hown, hbel⟩
    · have HW : Hid (fewE l = (l.take i).map oneE) := Lib.hid (by rw [fewE, List.take_of_length_le (by omega), List.take_of_length_le (by omega)])
      have h2 : ¬ (i : Int) < (l.length : Int) := by omega
      go_wp2
      go_ret
      exact ⟨_, rfl, by rw [HW.out]; exact hown, hbel⟩
end Go.Proofs.Ytipipjpdlblifaa
