/-
  Contract of the program's Lay.
-/
import Derived.Test.YtlahccmlnbdekaaUWith
import Derived.Test.YtlahccmlnbdekaaTRMany
namespace Go.Proofs.Ytlahccmlnbdekaa
open Go.ChangeShapes Go.WideShapes Go.ChangeAt Go.RowKit
set_option linter.unusedVariables false
set_option linter.unusedSimpArgs false
set_option maxRecDepth 100000

/-- What Lay comes to. -/
inductive LayC (l : List Upl) (id : Nat) (p : Prt) : List Upl → Nat → Nat → Prop
  | arg : ¬ (okUps l ∧ mayP p = true) → LayC l id p [] 0 1
  | none : okUps l → mayP p = true → (∀ j (hl : j < l.length), l[j].id ≠ id) → LayC l id p [] 0 4
  | large (i : Nat) (h : i < l.length) : okUps l → mayP p = true → l[i].id = id → (∀ j (hj : j < i) (hl : j < l.length), l[j].id ≠ id) → 30 < (withP l[i].L p).length → LayC l id p [] 0 6
  | yes (i : Nat) (h : i < l.length) : okUps l → mayP p = true → l[i].id = id → (∀ j (hj : j < i) (hl : j < l.length), l[j].id ≠ id) → ¬ 30 < (withP l[i].L p).length → LayC l id p (l.set i { l[i] with L := withP l[i].L p }) (crc (bl p.data)) 0
theorem layC_ex (l : List Upl) (id : Nat) (p : Prt) : ∃ r t e, LayC l id p r t e := by
  by_cases h : okUps l ∧ mayP p = true
  · rcases where_id l id with ⟨-, k⟩ | ⟨i, hi, -, k, m⟩
    · exact ⟨_, _, _, .none h.1 h.2 k⟩
    · by_cases z : 30 < (withP l[i].L p).length
      · exact ⟨_, _, _, .large i hi h.1 h.2 k m z⟩
      · exact ⟨_, _, _, .yes i hi h.1 h.2 k m z⟩
  · exact ⟨_, _, _, .arg h⟩
theorem withP_length (L : List Prt) (p : Prt) : (withP L p).length ≤ L.length + 1 := by
  have : ∀ L : List Prt, (L.filter (fun x => decide (x.n < p.n))).length + (L.filter (fun x => decide (p.n < x.n))).length ≤ L.length := by
    intro L
    induction L with
    | nil => simp
    | cons y r ih =>
      by_cases h1 : y.n < p.n
      · have h2 : ¬ p.n < y.n := by omega
        rw [List.filter_cons_of_pos (by simpa using h1), List.filter_cons_of_neg (by simpa using h2), List.length_cons, List.length_cons]; omega
      · by_cases h2 : p.n < y.n
        · rw [List.filter_cons_of_neg (by simpa using h1), List.filter_cons_of_pos (by simpa using h2), List.length_cons, List.length_cons]; omega
        · rw [List.filter_cons_of_neg (by simpa using h1), List.filter_cons_of_neg (by simpa using h2), List.length_cons]; omega
  have := this L
  rw [withP, List.length_append, List.length_append, List.length_singleton]; omega
theorem withP_ok {L : List Prt} {p : Prt} (h : ∀ x ∈ L, okP x) (k : okP p) : ∀ x ∈ withP L p, okP x := by
  intro x hx
  rw [withP, List.mem_append, List.mem_append] at hx
  rcases hx with (hx | hx) | hx
  · exact h x (List.mem_filter.1 hx).1
  · obtain rfl : x = p := by simpa using hx
    exact k
  · exact h x (List.mem_filter.1 hx).1
set_option maxHeartbeats 8000000 in
theorem layU_any (l : List Upl) (v : Value) (id : Nat) (p : Prt) (w : World) (r : List Upl) (t e : Nat) (h : LayC l id p r t e) (hp : okP p) (hs : smL l) (ht : Upls w w.heap.size v l) :
    Calls Try.prog 12 #[v, .int .u64 (id : Nat), prt p] w fun z w' => ∃ u, z = .returned (.tuple #[u, .int .u32 (t : Nat), .int .i64 (e : Nat)]) ∧ Upls w' w'.heap.size u r ∧ Q w w' := by
  obtain ⟨x, d⟩ := p
  have HT := Lib.hid ht
  have hl := hs.1
  have q00 := (Q.refl w).alloc (.cells #[.int .i64 x, .string d] 25)
  have CK : ∀ R, Chk (okUps l) R → Calls Try.prog 19 #[v] (w.alloc (.cells #[.int .i64 x, .string d] 25)) fun e w' => e = .returned (.int .i64 (chkE R)) ∧ Q (w.alloc (.cells #[.int .i64 x, .string d] 25)) w' := fun R hR => checkU_any l v _ R hR hs (ht.on q00)
  have M0 := fun d' => mayLay_any ⟨x, d⟩ d'
  have PL : Hid (∀ d, Q w d → Calls Try.prog 32 #[v, .int .u64 (id : Nat)] d fun e w' => e = .returned (.int .i64 (idxU l id)) ∧ Q d w') := Lib.hid fun d q => placeU_any l v id d hl (ht.on q)
  have AA : Hid (∀ d, Q w d → Calls Try.prog 34 #[v] d fun e w' => ∃ v', e = .returned v' ∧ OwnU d.heap.size w' v' l ∧ Q d w') := Lib.hid fun d q => allApart_any l v d hs (ht.on q)
  rw [prt] at M0 ⊢
  simp only at M0 ⊢
  by_cases hok : okUps l
  · have C := Lib.hid (CK true (.inl ⟨rfl, hok⟩))
    cases hm : mayP ⟨x, d⟩ with
    | false =>
      have HV : Hid (r = [] ∧ t = 0 ∧ e = 1) := Lib.hid (by
        cases h with
        | arg h => exact ⟨rfl, rfl, rfl⟩
        | none _ h _ => rw [hm] at h; simp at h
        | large _ _ _ h => rw [hm] at h; simp at h
        | yes _ _ _ h => rw [hm] at h; simp at h)
      rw [hm] at M0
      have M := Lib.hid M0
      clear CK ht hs h hok hm M0 PL AA
      go_enter Try.func12, Try.ntmps12
      go_wp2_with fail
      refine (C.out).mono ?_
      rintro e w1 ⟨rfl, q1⟩
      obtain ⟨b0, b1⟩ := boxP_of q1
      go_wp2_with fail
      refine (M.out _).mono ?_
      rintro e w2 ⟨rfl, q2⟩
      go_wp2
      (try simp only [Exit.inBlock, Exit.then])
      refine bodyPost_ret (v := .tuple #[.slice none 0 0, .int .u32 0, .int .i64 1]) (by simp [results, Try.results12, go_sem]) rfl ⟨_, by rw [HV.out.2.1, HV.out.2.2]; rfl, by rw [HV.out.1]; exact Upls.nil _ _, q00.trans (q1.trans q2)⟩
    | true =>
      rw [hm] at M0
      have M := Lib.hid M0
      have hd2 : d.size ≤ 5000 := by have := (mayP_iff.1 hm).2.2; show d.size ≤ 5000; simp only at this; omega
      clear CK M0
      cases h with
      | arg h => exact absurd ⟨hok, hm⟩ h
      | none _ _ hno =>
        rw [idxU_none hno] at PL
        clear ht hs hok hno hm AA
        go_enter Try.func12, Try.ntmps12
        go_wp2_with fail
        refine (C.out).mono ?_
        rintro e w1 ⟨rfl, q1⟩
        obtain ⟨b0, b1⟩ := boxP_of q1
        go_wp2_with fail
        refine (M.out _).mono ?_
        rintro e w2 ⟨rfl, q2⟩
        go_wp2_with fail
        refine (PL.out _ (q00.trans (q1.trans q2))).mono ?_
        rintro e w3 ⟨rfl, q3⟩
        go_wp2
        (try simp only [Exit.inBlock, Exit.then])
        refine bodyPost_ret (v := .tuple #[.slice none 0 0, .int .u32 0, .int .i64 4]) (by simp [results, Try.results12, go_sem]) rfl ⟨_, rfl, Upls.nil _ _, q00.trans (q1.trans (q2.trans q3))⟩
      | large i hlt _ _ hid hlo hbig =>
        have e1 := idxU_hit hlt hid hlo
        rw [e1] at PL
        have hsm := hs.2 _ (List.getElem_mem hlt)
        have hoL := (hok.2 i hlt).1.2.2
        obtain ⟨a, c', hv, ha, A2, c2, hps, hat⟩ := HT.out.pick i hlt
        obtain ⟨c, hv'⟩ : ∃ c, v = .slice (some a) l.length c := ⟨_, hv⟩
        subst hv'
        have hX : l[i] = l[i] := rfl
        obtain ⟨X, hX⟩ : ∃ X, X = l[i] := ⟨_, rfl⟩
        rw [← hX] at hps hat hsm hoL hbig 
        have HX := Lib.hid hX
        obtain ⟨xi, xk, L⟩ := X
        simp only at hps hat hsm hoL hbig 
        have hL1 : L.length ≤ 1000 := hsm.2.1
        have hW1 := withP_length L ⟨x, d⟩
        have HWO := Lib.hid (withP_ok hps.okAll hp)
        obtain ⟨n2, hn2⟩ : ∃ n, L.length = n := ⟨_, rfl⟩
        rw [hn2] at hps hat
        have HN2 := Lib.hid hn2
        have KS : Hid (∀ b, Q (w.alloc (.cells #[.int .i64 x, .string d] 25)) b → (fun w' => w'.cell? ⟨w.heap.size, 0, none⟩ = some (.int .i64 x) ∧ w'.cell? ⟨w.heap.size, 1, none⟩ = some (.string d) ∧ w'.cell? ⟨(a.add (i * 3)).block, (a.add (i * 3)).off + 2, none⟩ = some (.slice A2 n2 c2) ∧ Q (w.alloc (.cells #[.int .i64 x, .string d] 25)) w') b) := Lib.hid fun b q => ⟨(boxP_of q).1, (boxP_of q).2, (hat b (q00.trans q)).2.2, q⟩
        have MW : Hid (∀ b, (fun w' => w'.cell? ⟨w.heap.size, 0, none⟩ = some (.int .i64 x) ∧ w'.cell? ⟨w.heap.size, 1, none⟩ = some (.string d) ∧ w'.cell? ⟨(a.add (i * 3)).block, (a.add (i * 3)).off + 2, none⟩ = some (.slice A2 n2 c2) ∧ Q (w.alloc (.cells #[.int .i64 x, .string d] 25)) w') b → Calls Try.prog 33 #[.slice A2 n2 c2, .agg #[.int .i64 x, .string d]] b fun e w' => ∃ v', e = .returned v' ∧ OwnP b.heap.size w' v' (withP L ⟨x, d⟩) ∧ Q b w') := Lib.hid fun b hb => by
          have := with_any L ⟨x, d⟩ (.slice A2 n2 c2) b hoL hp hL1 (hps.on (q00.trans hb.2.2.2))
          rw [prt] at this; exact this
        have hilt : (i : Int) < (l.length : Int) := by omega
        have hi0 : ¬ (i : Int) < 0 := by omega
        clear ht hs hok hid hlo e1 hv hX hps hat hsm hoL hn2
        have hb2 : (30 : Int) < ((withP L ⟨x, d⟩).length : Int) := by omega
        clear AA hbig
        go_enter Try.func12, Try.ntmps12
        go_wp2_with fail
        refine (C.out).mono ?_
        rintro e w1 ⟨rfl, q1⟩
        obtain ⟨b0, b1⟩ := boxP_of q1
        go_wp2_with fail
        refine (M.out _).mono ?_
        rintro e w2 ⟨rfl, q2⟩
        go_wp2_with fail
        refine (PL.out _ (q00.trans (q1.trans q2))).mono ?_
        rintro e w3 ⟨rfl, q3⟩
        have qz := q1.trans (q2.trans q3)
        go_wp2_with fail
        refine wp_region_held_drew (S := (fun w' => w'.cell? ⟨w.heap.size, 0, none⟩ = some (.int .i64 x) ∧ w'.cell? ⟨w.heap.size, 1, none⟩ = some (.string d) ∧ w'.cell? ⟨(a.add (i * 3)).block, (a.add (i * 3)).off + 2, none⟩ = some (.slice A2 n2 c2) ∧ Q (w.alloc (.cells #[.int .i64 x, .string d] 25)) w')) (by kernel_rfl) (KS.out _ qz.drew) (fun hHeld => ?_)
        refine wpAnyH_take (i := 0) (oi := _) (v := ?_) rfl (by kernel_rfl) (by kernel_rfl) (by kernel_rfl) (fun _ _ _ h => h) (Or.inl ⟨by rfl, ?_⟩) (by assumption) ?_
        rotate_left
        · (intro wx hSw; (try dsimp only at hSw); go_simp; (try with_reducible rfl))
        (try simp only [Act.put, List.getElem_toArray, List.getElem_cons_zero, List.getElem_cons_succ, List.setIfInBounds_toArray, List.set_cons_zero, List.set_cons_succ])
        refine wpAnyH_take (i := 1) (oi := _) (v := ?_) rfl (by kernel_rfl) (by kernel_rfl) (by kernel_rfl) (fun _ _ _ h => h) (Or.inl ⟨by rfl, ?_⟩) (by assumption) ?_
        rotate_left
        · (intro wx hSw; (try dsimp only at hSw); go_simp; (try with_reducible rfl))
        (try simp only [Act.put, List.getElem_toArray, List.getElem_cons_zero, List.getElem_cons_succ, List.setIfInBounds_toArray, List.set_cons_zero, List.set_cons_succ])
        refine wpAnyH_take (i := 2) (oi := _) (v := ?_) rfl (by kernel_rfl) (by kernel_rfl) (by kernel_rfl) (fun _ _ _ h => h) (Or.inl ⟨by rfl, ?_⟩) (by assumption) ?_
        rotate_left
        · (intro wx hSw; (try dsimp only at hSw); go_simp; (try with_reducible rfl))
        (try simp only [Act.put, List.getElem_toArray, List.getElem_cons_zero, List.getElem_cons_succ, List.setIfInBounds_toArray, List.set_cons_zero, List.set_cons_succ])
        refine wpAnyH_take (i := 3) (oi := _) (v := ?_) rfl (by kernel_rfl) (by kernel_rfl) (by kernel_rfl) (fun _ _ _ h => h) (Or.inl ⟨by rfl, ?_⟩) (by assumption) ?_
        rotate_left
        · (intro wx hSw; (try dsimp only at hSw); go_simp; (try with_reducible rfl))
        (try simp only [Act.put, List.getElem_toArray, List.getElem_cons_zero, List.getElem_cons_succ, List.setIfInBounds_toArray, List.set_cons_zero, List.set_cons_succ])
        refine wpAnyH_take (i := 4) (oi := _) (v := ?_) rfl (by kernel_rfl) (by kernel_rfl) (by kernel_rfl) (fun _ _ _ h => h) (Or.inl ⟨by rfl, ?_⟩) (by assumption) ?_
        rotate_left
        · (intro wx hSw; (try dsimp only at hSw); go_simp; (try with_reducible rfl))
        (try simp only [Act.put, List.getElem_toArray, List.getElem_cons_zero, List.getElem_cons_succ, List.setIfInBounds_toArray, List.set_cons_zero, List.set_cons_succ])
        refine wpAnyH_take (i := 5) (oi := _) (v := ?_) rfl (by kernel_rfl) (by kernel_rfl) (by kernel_rfl) (fun _ _ _ h => h) (Or.inl ⟨by rfl, ?_⟩) (by assumption) ?_
        rotate_left
        · (intro wx hSw; (try dsimp only at hSw); go_simp; (try with_reducible rfl))
        (try simp only [Act.put, List.getElem_toArray, List.getElem_cons_zero, List.getElem_cons_succ, List.setIfInBounds_toArray, List.set_cons_zero, List.set_cons_succ])
        refine wpAnyH_ready (rs := [6]) (by kernel_rfl) (by simp) ?_
        refine AllReadyH.cons (o := _) rfl (fun K hK => ?_) AllReadyH.nil
        go_simp
        go_at_call 33
        refine (MW.out _ (by assumption)).mono ?_
        rintro e w4 ⟨v4, rfl, o4, q4⟩
        obtain ⟨A4, c4, rfl⟩ := o4.form
        have q5 : Q (w.alloc (.cells #[.int .i64 x, .string d] 25)) w4 := Q.trans hHeld.2.2.2 q4
        refine hK.out _ _ (KS.out _ q5) (fun hHeld => ?_)
        clear hK K
        (try simp only [Act.put, List.getElem_toArray, List.getElem_cons_zero, List.getElem_cons_succ, List.setIfInBounds_toArray, List.set_cons_zero, List.set_cons_succ])
        refine wpAnyH_take (i := 7) (oi := _) (v := ?_) rfl (by kernel_rfl) (by kernel_rfl) (by kernel_rfl) (fun _ _ _ h => h) (Or.inl ⟨by rfl, ?_⟩) (by assumption) ?_
        rotate_left
        · (intro wx hSw; (try dsimp only at hSw); go_simp; (try with_reducible rfl))
        (try simp only [Act.put, List.getElem_toArray, List.getElem_cons_zero, List.getElem_cons_succ, List.setIfInBounds_toArray, List.set_cons_zero, List.set_cons_succ])
        refine wpAnyH_done (by kernel_rfl) ?_ _
        go_wp2
        (try simp only [Exit.inBlock, Exit.then])
        refine bodyPost_ret (v := .tuple #[.slice none 0 0, .int .u32 0, .int .i64 6]) (by simp [results, Try.results12, go_sem]) rfl ⟨_, rfl, Upls.nil _ _, q00.trans q5⟩
      | yes i hlt _ _ hid hlo hbig =>
        have e1 := idxU_hit hlt hid hlo
        rw [e1] at PL
        have hsm := hs.2 _ (List.getElem_mem hlt)
        have hoL := (hok.2 i hlt).1.2.2
        obtain ⟨a, c', hv, ha, A2, c2, hps, hat⟩ := HT.out.pick i hlt
        obtain ⟨c, hv'⟩ : ∃ c, v = .slice (some a) l.length c := ⟨_, hv⟩
        subst hv'
        have hX : l[i] = l[i] := rfl
        obtain ⟨X, hX⟩ : ∃ X, X = l[i] := ⟨_, rfl⟩
        rw [← hX] at hps hat hsm hoL hbig ⊢
        have HX := Lib.hid hX
        obtain ⟨xi, xk, L⟩ := X
        simp only at hps hat hsm hoL hbig ⊢
        have hL1 : L.length ≤ 1000 := hsm.2.1
        have hW1 := withP_length L ⟨x, d⟩
        have HWO := Lib.hid (withP_ok hps.okAll hp)
        obtain ⟨n2, hn2⟩ : ∃ n, L.length = n := ⟨_, rfl⟩
        rw [hn2] at hps hat
        have HN2 := Lib.hid hn2
        have KS : Hid (∀ b, Q (w.alloc (.cells #[.int .i64 x, .string d] 25)) b → (fun w' => w'.cell? ⟨w.heap.size, 0, none⟩ = some (.int .i64 x) ∧ w'.cell? ⟨w.heap.size, 1, none⟩ = some (.string d) ∧ w'.cell? ⟨(a.add (i * 3)).block, (a.add (i * 3)).off + 2, none⟩ = some (.slice A2 n2 c2) ∧ Q (w.alloc (.cells #[.int .i64 x, .string d] 25)) w') b) := Lib.hid fun b q => ⟨(boxP_of q).1, (boxP_of q).2, (hat b (q00.trans q)).2.2, q⟩
        have MW : Hid (∀ b, (fun w' => w'.cell? ⟨w.heap.size, 0, none⟩ = some (.int .i64 x) ∧ w'.cell? ⟨w.heap.size, 1, none⟩ = some (.string d) ∧ w'.cell? ⟨(a.add (i * 3)).block, (a.add (i * 3)).off + 2, none⟩ = some (.slice A2 n2 c2) ∧ Q (w.alloc (.cells #[.int .i64 x, .string d] 25)) w') b → Calls Try.prog 33 #[.slice A2 n2 c2, .agg #[.int .i64 x, .string d]] b fun e w' => ∃ v', e = .returned v' ∧ OwnP b.heap.size w' v' (withP L ⟨x, d⟩) ∧ Q b w') := Lib.hid fun b hb => by
          have := with_any L ⟨x, d⟩ (.slice A2 n2 c2) b hoL hp hL1 (hps.on (q00.trans hb.2.2.2))
          rw [prt] at this; exact this
        have hilt : (i : Int) < (l.length : Int) := by omega
        have hi0 : ¬ (i : Int) < 0 := by omega
        clear ht hs hok hid hlo e1 hv hX hps hat hsm hoL hn2
        have hb2 : ¬ (30 : Int) < ((withP L ⟨x, d⟩).length : Int) := by omega
        have O := Lib.hid fun w => of_any d w hd2
        clear hbig
        go_enter Try.func12, Try.ntmps12
        go_wp2_with fail
        refine (C.out).mono ?_
        rintro e w1 ⟨rfl, q1⟩
        obtain ⟨b0, b1⟩ := boxP_of q1
        go_wp2_with fail
        refine (M.out _).mono ?_
        rintro e w2 ⟨rfl, q2⟩
        go_wp2_with fail
        refine (PL.out _ (q00.trans (q1.trans q2))).mono ?_
        rintro e w3 ⟨rfl, q3⟩
        have qz := q1.trans (q2.trans q3)
        go_wp2_with fail
        refine wp_region_held_drew (S := (fun w' => w'.cell? ⟨w.heap.size, 0, none⟩ = some (.int .i64 x) ∧ w'.cell? ⟨w.heap.size, 1, none⟩ = some (.string d) ∧ w'.cell? ⟨(a.add (i * 3)).block, (a.add (i * 3)).off + 2, none⟩ = some (.slice A2 n2 c2) ∧ Q (w.alloc (.cells #[.int .i64 x, .string d] 25)) w')) (by kernel_rfl) (KS.out _ qz.drew) (fun hHeld => ?_)
        refine wpAnyH_take (i := 0) (oi := _) (v := ?_) rfl (by kernel_rfl) (by kernel_rfl) (by kernel_rfl) (fun _ _ _ h => h) (Or.inl ⟨by rfl, ?_⟩) (by assumption) ?_
        rotate_left
        · (intro wx hSw; (try dsimp only at hSw); go_simp; (try with_reducible rfl))
        (try simp only [Act.put, List.getElem_toArray, List.getElem_cons_zero, List.getElem_cons_succ, List.setIfInBounds_toArray, List.set_cons_zero, List.set_cons_succ])
        refine wpAnyH_take (i := 1) (oi := _) (v := ?_) rfl (by kernel_rfl) (by kernel_rfl) (by kernel_rfl) (fun _ _ _ h => h) (Or.inl ⟨by rfl, ?_⟩) (by assumption) ?_
        rotate_left
        · (intro wx hSw; (try dsimp only at hSw); go_simp; (try with_reducible rfl))
        (try simp only [Act.put, List.getElem_toArray, List.getElem_cons_zero, List.getElem_cons_succ, List.setIfInBounds_toArray, List.set_cons_zero, List.set_cons_succ])
        refine wpAnyH_take (i := 2) (oi := _) (v := ?_) rfl (by kernel_rfl) (by kernel_rfl) (by kernel_rfl) (fun _ _ _ h => h) (Or.inl ⟨by rfl, ?_⟩) (by assumption) ?_
        rotate_left
        · (intro wx hSw; (try dsimp only at hSw); go_simp; (try with_reducible rfl))
        (try simp only [Act.put, List.getElem_toArray, List.getElem_cons_zero, List.getElem_cons_succ, List.setIfInBounds_toArray, List.set_cons_zero, List.set_cons_succ])
        refine wpAnyH_take (i := 3) (oi := _) (v := ?_) rfl (by kernel_rfl) (by kernel_rfl) (by kernel_rfl) (fun _ _ _ h => h) (Or.inl ⟨by rfl, ?_⟩) (by assumption) ?_
        rotate_left
        · (intro wx hSw; (try dsimp only at hSw); go_simp; (try with_reducible rfl))
        (try simp only [Act.put, List.getElem_toArray, List.getElem_cons_zero, List.getElem_cons_succ, List.setIfInBounds_toArray, List.set_cons_zero, List.set_cons_succ])
        refine wpAnyH_take (i := 4) (oi := _) (v := ?_) rfl (by kernel_rfl) (by kernel_rfl) (by kernel_rfl) (fun _ _ _ h => h) (Or.inl ⟨by rfl, ?_⟩) (by assumption) ?_
        rotate_left
        · (intro wx hSw; (try dsimp only at hSw); go_simp; (try with_reducible rfl))
        (try simp only [Act.put, List.getElem_toArray, List.getElem_cons_zero, List.getElem_cons_succ, List.setIfInBounds_toArray, List.set_cons_zero, List.set_cons_succ])
        refine wpAnyH_take (i := 5) (oi := _) (v := ?_) rfl (by kernel_rfl) (by kernel_rfl) (by kernel_rfl) (fun _ _ _ h => h) (Or.inl ⟨by rfl, ?_⟩) (by assumption) ?_
        rotate_left
        · (intro wx hSw; (try dsimp only at hSw); go_simp; (try with_reducible rfl))
        (try simp only [Act.put, List.getElem_toArray, List.getElem_cons_zero, List.getElem_cons_succ, List.setIfInBounds_toArray, List.set_cons_zero, List.set_cons_succ])
        refine wpAnyH_ready (rs := [6]) (by kernel_rfl) (by simp) ?_
        refine AllReadyH.cons (o := _) rfl (fun K hK => ?_) AllReadyH.nil
        go_simp
        go_at_call 33
        refine (MW.out _ (by assumption)).mono ?_
        rintro e w4 ⟨v4, rfl, o4, q4⟩
        obtain ⟨A4, c4, rfl⟩ := o4.form
        have q5 : Q (w.alloc (.cells #[.int .i64 x, .string d] 25)) w4 := Q.trans hHeld.2.2.2 q4
        refine hK.out _ _ (KS.out _ q5) (fun hHeld => ?_)
        clear hK K
        (try simp only [Act.put, List.getElem_toArray, List.getElem_cons_zero, List.getElem_cons_succ, List.setIfInBounds_toArray, List.set_cons_zero, List.set_cons_succ])
        refine wpAnyH_take (i := 7) (oi := _) (v := ?_) rfl (by kernel_rfl) (by kernel_rfl) (by kernel_rfl) (fun _ _ _ h => h) (Or.inl ⟨by rfl, ?_⟩) (by assumption) ?_
        rotate_left
        · (intro wx hSw; (try dsimp only at hSw); go_simp; (try with_reducible rfl))
        (try simp only [Act.put, List.getElem_toArray, List.getElem_cons_zero, List.getElem_cons_succ, List.setIfInBounds_toArray, List.set_cons_zero, List.set_cons_succ])
        refine wpAnyH_done (by kernel_rfl) ?_ _
        go_wp2_with fail
        refine (AA.out _ (q00.trans q5)).mono ?_
        rintro e w6 ⟨v6, rfl, o6, q6⟩
        have hr := o4.read HWO.out
        obtain ⟨A6, c6, rfl⟩ := o6.form
        obtain ⟨P, hP, r6, f6⟩ := o6
        have hPl : P.length = l.length := by rw [← hP, List.length_map]
        obtain ⟨a6, hA, ha1, ha2, hat6⟩ := r6.at i (by omega)
        subst hA
        obtain ⟨-, -, e2', -, -, k2⟩ := hat6 _ (Q.refl _)
        obtain ⟨z2, e2⟩ : ∃ z, w6.cell? ⟨(a6.add (i * 3)).block, (a6.add (i * 3)).off + 2, none⟩ = some z := ⟨_, e2'⟩
        clear e2'
        have u6 : AptU w4.heap.size w6 (.slice A4 (withP L ⟨x, d⟩).length c4) (withP L ⟨x, d⟩) := ⟨HWO.out, by unfold maxLen; omega, .inl (hr.below q6)⟩
        have s6 := r6.store f6 i (by omega) u6 q6.size
        have hPi : (P[i]'(by omega)).1 = ⟨xi, xk, L⟩ := by rw [HX.out]; simp [← hP]
        rw [hP, hPi] at s6
        have q7 : Below w4.heap.size w4 (w6.setCell ⟨(a6.add (i * 3)).block, (a6.add (i * 3)).off + 2, none⟩ (.slice A4 (withP L ⟨x, d⟩).length c4)) := Below.setCell q6 (by show w4.heap.size ≤ (a6.add (i * 3)).block; rw [add_block]; exact ha1) _
        have q8 := q5.trans q7
        obtain ⟨g0, g1⟩ := boxP_of q8
        obtain ⟨y0, y1⟩ := boxP_of (q5.trans q6)
        have HS := Lib.hid (s6.read q7.size)
        have H9 := Lib.hid (q00.trans q8)
        clear r6 f6 hat6 hr u6 s6 hP hPi hPl
        go_wp2_with fail
        refine (O.out _).mono ?_
        rintro e w9 ⟨rfl, rfl⟩
        go_wp2
        (try simp only [Exit.inBlock, Exit.then])
        refine bodyPost_ret (v := .tuple #[.slice (some a6) l.length c6, .int .u32 (crc (bl d) : Nat), .int .i64 0]) (by simp [results, Try.results12, go_sem]) rfl ⟨_, rfl, ?_, H9.out⟩
        exact HS.out
  · have C := Lib.hid (CK false (.inr ⟨rfl, hok⟩))
    have HV : Hid (r = [] ∧ t = 0 ∧ e = 1) := Lib.hid (by
      cases h with
      | arg h => exact ⟨rfl, rfl, rfl⟩
      | none h _ _ => exact absurd h hok
      | large _ _ h => exact absurd h hok
      | yes _ _ h => exact absurd h hok)
    clear CK ht hs h hok M0 PL AA
    go_enter Try.func12, Try.ntmps12
    go_wp2_with fail
    refine (C.out).mono ?_
    rintro e w1 ⟨rfl, q1⟩
    go_wp2
    (try simp only [Exit.inBlock, Exit.then])
    refine bodyPost_ret (v := .tuple #[.slice none 0 0, .int .u32 0, .int .i64 1]) (by simp [results, Try.results12, go_sem]) rfl ⟨_, by rw [HV.out.2.1, HV.out.2.2]; rfl, by rw [HV.out.1]; exact Upls.nil _ _, q00.trans q1⟩
end Go.Proofs.Ytlahccmlnbdekaa
