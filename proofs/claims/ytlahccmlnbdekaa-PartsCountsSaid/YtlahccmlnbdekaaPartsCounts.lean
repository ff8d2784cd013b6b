/-
  Proved: whatever uploads, number and part PartsCounts is called with, it returns true and leaves what it was given as it was. No condition.
-/
import Derived.Test.YtlahccmlnbdekaaUFewL
import Derived.Test.YtlahccmlnbdekaaUAwk
import Derived.Test.YtlahccmlnbdekaaUCount
import Derived.Test.YtlahccmlnbdekaaUSame
import Derived.Deep.DeepCutAuto
import Derived.Deep.RegionHeld3
namespace Go.Proofs.Ytlahccmlnbdekaa.partsCounts
open Go.ChangeShapes Go.WideShapes Go.ChangeAt Go.RowKit
open Go.ChangeMaps (open_string shut_string)
set_option linter.unusedVariables false
set_option linter.unusedSimpArgs false

set_option maxHeartbeats 8000000 in
set_option maxRecDepth 100000 in
theorem walk (l : List Upl) (v : Value) (idv : Int) (p : Prt) (w : World) (t0 : Upls w w.heap.size v l) (z0 : l.length ≤ maxLen) (w1 : (Lit.int .u64 idv).wf = true) (up : okP p) :
    Calls Try.prog 8 #[v, .int .u64 idv, prt p] w fun e w' => e = .returned (.bool true) ∧ Q w w' := by
  obtain ⟨id, rfl, hid⟩ : ∃ n : Nat, idv = n ∧ n < 18446744073709551616 := by
    have h2 : 0 ≤ idv ∧ idv ≤ 18446744073709551615 := by simpa [Lit.wf, IntKind.min, IntKind.max, IntKind.signed, IntKind.bits] using w1
    exact ⟨idv.toNat, by omega, by omega⟩
  have FW : Hid (∀ d, Q w d → Calls Try.prog 10 #[v] d fun e w' => ∃ v', e = .returned v' ∧ RowF d.heap.size w' v' (fewL l) ∧ Q d w') := Lib.hid fun d q => fewUp_row l v d z0 (t0.on q)
  have sl := fewL_sm l
  obtain ⟨L, hL⟩ : ∃ L, L = fewL l := ⟨_, rfl⟩
  rw [← hL] at FW sl
  have op := okP_one up
  obtain ⟨pn, pd⟩ := p
  have ON := Lib.hid fun d => onePt_any ⟨pn, pd⟩ d up.2.2
  have hxd : (oneP ⟨pn, pd⟩).data.size ≤ 2001 := oneD_size pd
  obtain ⟨xn, xd, hx⟩ : ∃ a b, oneP ⟨pn, pd⟩ = ⟨a, b⟩ := ⟨_, _, rfl⟩
  rw [hx] at ON op hxd
  simp only [prt] at ON hxd ⊢
  obtain ⟨A, c, rfl⟩ := t0.form
  obtain ⟨N, hN⟩ : ∃ N, l.length = N := ⟨_, rfl⟩
  rw [hN] at FW ⊢
  have q00 := (Q.refl w).alloc (.cells #[.int .i64 pn, .string pd] 25)
  have AW := Lib.hid fun d => awakeU_any d
  clear t0 z0 w1 up hL hN hx
  obtain ⟨r, t, n, hLay⟩ := layC_ex L id ⟨xn, xd⟩
  have LY : Hid (∀ d u, Upls d d.heap.size u L → Calls Try.prog 12 #[u, .int .u64 (id : Nat), .agg #[.int .i64 xn, .string xd]] d fun z w' => ∃ u, z = .returned (.tuple #[u, .int .u32 (t : Nat), .int .i64 (n : Nat)]) ∧ Upls w' w'.heap.size u r ∧ Q d w') := Lib.hid fun d u h => layU_any L u id ⟨xn, xd⟩ d r t n hLay op sl h
  have HLay := Lib.hid hLay
  go_enter Try.func8, Try.ntmps8
  go_upto_region 1 with fail
  go_cut [0] from 18 to 21 (fun V wz => Upls wz wz.heap.size V L ∧ Bx wz w.heap.size 25 #[.int .i64 xn, .string xd] ∧ Q w wz)
  case first =>
    refine wp_region_held_drew (S := (fun _ => True)) (by kernel_rfl) trivial (fun hHeld => ?_)
    refine wpAnyH_take (i := 0) (oi := _) (v := ?_) rfl (by kernel_rfl) (by kernel_rfl) (by kernel_rfl) (fun _ _ _ h => h) (Or.inl ⟨by rfl, ?_⟩) (by assumption) ?_
    rotate_left
    · (intro wx hSw; (try dsimp only at hSw); go_simp; (try with_reducible rfl))
    (try simp only [Act.put, List.getElem_toArray, List.getElem_cons_zero, List.getElem_cons_succ, List.setIfInBounds_toArray, List.set_cons_zero, List.set_cons_succ])
    refine wpAnyH_ready (rs := [1, 2]) (by kernel_rfl) (by simp) ?_
    refine AllReadyH.cons (o := _) rfl (fun K hK => ?_) (AllReadyH.cons (o := _) rfl (fun K hK => ?_) AllReadyH.nil)
    · go_simp
      go_at_call 10
      refine (FW.out _ (q00.trans (Q.refl _).drew)).mono ?_
      rintro e wa ⟨v1, rfl, h1, qf⟩
      have qx := ((Q.refl (w.alloc (.cells #[.int .i64 pn, .string pd] 25))).drew).trans qf
      have bq := boxP_bx qx
      have b0 := bq.cell 0
      have b1 := bq.cell 1
      simp only [List.getElem?_toArray, List.getElem?_cons_zero, List.getElem?_cons_succ] at b0 b1
      refine hK.out _ _ trivial (fun hHeld => ?_)
      clear hK K
      (try simp only [Act.put, List.getElem_toArray, List.getElem_cons_zero, List.getElem_cons_succ, List.setIfInBounds_toArray, List.set_cons_zero, List.set_cons_succ])
      refine wpAnyH_ready (rs := [2]) (by kernel_rfl) (by simp) ?_
      refine AllReadyH.cons (o := _) rfl (fun K hK => ?_) AllReadyH.nil
      go_simp
      refine hK.out _ _ trivial (fun hHeld => ?_)
      clear hK K
      (try simp only [Act.put, List.getElem_toArray, List.getElem_cons_zero, List.getElem_cons_succ, List.setIfInBounds_toArray, List.set_cons_zero, List.set_cons_succ])
      clear b0 b1 bq
      refine wpAnyH_ready (rs := [3]) (by kernel_rfl) (by simp) ?_
      refine AllReadyH.cons (o := _) rfl (fun K hK => ?_) AllReadyH.nil
      go_simp
      go_at_call 11
      refine (ON.out _).mono ?_
      rintro e wb ⟨rfl, qo⟩
      have qz := qx.trans qo
      refine hK.out _ _ trivial (fun hHeld => ?_)
      clear hK K
      (try simp only [Act.put, List.getElem_toArray, List.getElem_cons_zero, List.getElem_cons_succ, List.setIfInBounds_toArray, List.set_cons_zero, List.set_cons_succ])
      refine wpAnyH_take (i := 4) (oi := _) (v := ?_) rfl (by kernel_rfl) (by kernel_rfl) (by kernel_rfl) (fun _ _ _ h => h) (Or.inl ⟨by rfl, ?_⟩) (by assumption) ?_
      rotate_left
      · (intro wx hSw; (try dsimp only at hSw); go_simp; (try with_reducible rfl))
      (try simp only [Act.put, List.getElem_toArray, List.getElem_cons_zero, List.getElem_cons_succ, List.setIfInBounds_toArray, List.set_cons_zero, List.set_cons_succ])
      have bz := boxP_bx qz
      have b0 := bz.cell 0
      have b1 := bz.cell 1
      have f0 := bz.frozen 0
      have f1 := bz.frozen 1
      simp only [List.getElem?_toArray, List.getElem?_cons_zero, List.getElem?_cons_succ] at b0 b1
      refine wpAnyH_ready (rs := [5]) (by kernel_rfl) (by simp) ?_
      refine AllReadyH.cons (o := _) rfl (fun K hK => ?_) AllReadyH.nil
      go_simp
      have hz2 := (((h1.on qo).set (B := w.heap.size) (i := 0) (u := .int .i64 xn) (by simp)).set (B := w.heap.size) (i := 1) (u := .string xd) (by simp)).read (by have := (qf.trans qo).size; simp at this ⊢; exact this)
      have qz2 := (Q.set (k := 1) (Q.set (k := 0) (q00.trans qz) (Nat.le_refl w.heap.size) (.int .i64 xn)) (Nat.le_refl w.heap.size) (.string xd))
      have bz2 := (bz.set 0 (.int .i64 xn)).set 1 (.string xd)
      refine hK.out _ _ trivial (fun hHeld => ?_)
      clear hK K
      (try simp only [Act.put, List.getElem_toArray, List.getElem_cons_zero, List.getElem_cons_succ, List.setIfInBounds_toArray, List.set_cons_zero, List.set_cons_succ])
      refine wpAnyH_done (by kernel_rfl) ?_ _
      go_wp2_with fail
      go_meet
      exact ⟨hz2, bz2, qz2⟩
    · go_simp
      refine hK.out _ _ trivial (fun hHeld => ?_)
      clear hK K
      (try simp only [Act.put, List.getElem_toArray, List.getElem_cons_zero, List.getElem_cons_succ, List.setIfInBounds_toArray, List.set_cons_zero, List.set_cons_succ])
      refine wpAnyH_ready (rs := [1]) (by kernel_rfl) (by simp) ?_
      refine AllReadyH.cons (o := _) rfl (fun K hK => ?_) AllReadyH.nil
      go_simp
      go_at_call 10
      refine (FW.out _ (q00.trans (Q.refl _).drew)).mono ?_
      rintro e wa ⟨v1, rfl, h1, qf⟩
      have qx := ((Q.refl (w.alloc (.cells #[.int .i64 pn, .string pd] 25))).drew).trans qf
      refine hK.out _ _ trivial (fun hHeld => ?_)
      clear hK K
      (try simp only [Act.put, List.getElem_toArray, List.getElem_cons_zero, List.getElem_cons_succ, List.setIfInBounds_toArray, List.set_cons_zero, List.set_cons_succ])
      refine wpAnyH_ready (rs := [3]) (by kernel_rfl) (by simp) ?_
      refine AllReadyH.cons (o := _) rfl (fun K hK => ?_) AllReadyH.nil
      go_simp
      go_at_call 11
      refine (ON.out _).mono ?_
      rintro e wb ⟨rfl, qo⟩
      have qz := qx.trans qo
      refine hK.out _ _ trivial (fun hHeld => ?_)
      clear hK K
      (try simp only [Act.put, List.getElem_toArray, List.getElem_cons_zero, List.getElem_cons_succ, List.setIfInBounds_toArray, List.set_cons_zero, List.set_cons_succ])
      refine wpAnyH_take (i := 4) (oi := _) (v := ?_) rfl (by kernel_rfl) (by kernel_rfl) (by kernel_rfl) (fun _ _ _ h => h) (Or.inl ⟨by rfl, ?_⟩) (by assumption) ?_
      rotate_left
      · (intro wx hSw; (try dsimp only at hSw); go_simp; (try with_reducible rfl))
      (try simp only [Act.put, List.getElem_toArray, List.getElem_cons_zero, List.getElem_cons_succ, List.setIfInBounds_toArray, List.set_cons_zero, List.set_cons_succ])
      have bz := boxP_bx qz
      have b0 := bz.cell 0
      have b1 := bz.cell 1
      have f0 := bz.frozen 0
      have f1 := bz.frozen 1
      simp only [List.getElem?_toArray, List.getElem?_cons_zero, List.getElem?_cons_succ] at b0 b1
      refine wpAnyH_ready (rs := [5]) (by kernel_rfl) (by simp) ?_
      refine AllReadyH.cons (o := _) rfl (fun K hK => ?_) AllReadyH.nil
      go_simp
      have hz2 := (((h1.on qo).set (B := w.heap.size) (i := 0) (u := .int .i64 xn) (by simp)).set (B := w.heap.size) (i := 1) (u := .string xd) (by simp)).read (by have := (qf.trans qo).size; simp at this ⊢; exact this)
      have qz2 := (Q.set (k := 1) (Q.set (k := 0) (q00.trans qz) (Nat.le_refl w.heap.size) (.int .i64 xn)) (Nat.le_refl w.heap.size) (.string xd))
      have bz2 := (bz.set 0 (.int .i64 xn)).set 1 (.string xd)
      refine hK.out _ _ trivial (fun hHeld => ?_)
      clear hK K
      (try simp only [Act.put, List.getElem_toArray, List.getElem_cons_zero, List.getElem_cons_succ, List.setIfInBounds_toArray, List.set_cons_zero, List.set_cons_succ])
      refine wpAnyH_done (by kernel_rfl) ?_ _
      go_wp2_with fail
      go_meet
      exact ⟨hz2, bz2, qz2⟩
  case rest =>
    rename_i V0 wz
    obtain ⟨t1, bz, qz⟩ := hcut
    obtain ⟨A1, c1, rfl⟩ := t1.form
    clear FW ON
    have b0 := bz.cell 0
    have b1 := bz.cell 1
    simp only [List.getElem?_toArray, List.getElem?_cons_zero, List.getElem?_cons_succ] at b0 b1
    go_wp2_with fail
    refine (LY.out _ _ t1).mono ?_
    rintro e w2 ⟨u2, rfl, h2, q2⟩
    obtain ⟨A2, c2, rfl⟩ := h2.form
    clear b0 b1
    by_cases hn : n = 0
    · subst hn
      obtain ⟨U, V, f1, f2, okU1, okV1, hVL, hoct⟩ := lay_find hLay
      have sr : smL r := okUps_sm (layC_ok hLay)
      have kr := layC_ok hLay
      have FD1 : Hid (∀ d u, Upls d d.heap.size u L → Calls Try.prog 16 #[u, .int .u64 (id : Nat)] d fun x w' => ∃ u, x = .returned (.tuple #[upl U u, .int .i64 0]) ∧ OwnP d.heap.size w' u U.L ∧ Q d w') := Lib.hid fun d u h => findU_any L u id d U 0 f1 sl h
      have FD2 : Hid (∀ d u, Upls d d.heap.size u r → Calls Try.prog 16 #[u, .int .u64 (id : Nat)] d fun x w' => ∃ u, x = .returned (.tuple #[upl V u, .int .i64 0]) ∧ OwnP d.heap.size w' u V.L ∧ Q d w') := Lib.hid fun d u h => findU_any r u id d V 0 f2 sr h
      have oL9 := sizU_top sl L.length
      rw [List.take_length] at oL9
      have OC1 := fun d u (h : Upls d d.heap.size u L) => octets_any L u d sl h
      have OC2 := fun d u (h : Upls d d.heap.size u r) => octets_any r u d sr h
      have CH := fun d u (h : Upls d d.heap.size u r) => checkU_any r u d true (.inl ⟨rfl, kr⟩) sr h
      obtain ⟨oL, hoL⟩ : ∃ n, n = sizU L := ⟨_, rfl⟩
      obtain ⟨oR, hoR⟩ : ∃ n, n = sizU r := ⟨_, rfl⟩
      rw [← hoL] at OC1 oL9 hoct
      rw [← hoR] at OC2 hoct
      have okA : ∀ x ∈ U.L, okP x := fun x hx => by
        have := mayP_iff.1 ((okL_iff.1 okU1.2.2).1 x hx)
        exact ⟨by omega, by omega, by unfold maxLen; omega⟩
      have okB : ∀ x ∈ V.L, okP x := fun x hx => by
        have := mayP_iff.1 ((okL_iff.1 okV1.2.2).1 x hx)
        exact ⟨by omega, by omega, by unfold maxLen; omega⟩
      have smA := (okUp_sm okU1).2.2
      have hUl := okU1.2.1
      have hVl := okV1.2.1
      have hokL := okU1.2.2
      obtain ⟨ui, uk, UL⟩ := U
      obtain ⟨vi, vk, VL⟩ := V
      simp only [upl] at FD1 FD2 okA okB smA hUl hVl hokL hVL hoct
      have cnt := cnt_with UL ⟨xn, xd⟩
      rw [← hVL] at cnt
      have HOK := Lib.hid hokL
      have HSA := Lib.hid smA
      have HCN := Lib.hid cnt
      have HOC := Lib.hid hoct
      clear hLay f1 f2 okU1 okV1 hVL hoct sr kr hoL hoR sl op hokL smA cnt
      have qa := qz.trans q2
      have bp := Lib.hid bz
      have T1 := Lib.hid t1
      have T2 := Lib.hid h2
      go_wp2_with fail
      refine (FD1.out _ _ (t1.on q2)).mono ?_
      rintro e w3 ⟨u3, rfl, o3, q3⟩
      obtain ⟨A3, n3, c3, rfl⟩ := o3.nm
      have p3 := o3.read okA
      have f3 := (Q.refl w3).alloc (.cells #[.int .u64 (ui : Nat), .string uk, .slice A3 n3 c3] 40)
      go_wp2_with fail
      refine (FD2.out _ _ (h2.on (q3.trans f3))).mono ?_
      rintro e w4 ⟨u4, rfl, o4, q4⟩
      obtain ⟨A4, n4, c4, rfl⟩ := o4.nm
      have p4 := o4.read okB
      have f4 := (Q.refl w4).alloc (.cells #[.int .u64 (vi : Nat), .string vk, .slice A4 n4 c4] 40)
      have g5 := q4.trans f4
      obtain ⟨-, -, bu2⟩ := boxU_of g5
      obtain ⟨-, -, bv2⟩ := boxU_of (Q.refl (w4.alloc (.cells #[.int .u64 (vi : Nat), .string vk, .slice A4 n4 c4] 40)))
      have g3 := q3.trans (f3.trans g5)
      have bpE := bz.on (q2.trans g3)
      have p35 := p3.on (f3.trans g5)
      have p45 := p4.on f4
      have qe := qa.trans g3
      have T15 := t1.on (q2.trans g3)
      have T25 := h2.on g3
      go_upto_region 7 with fail
      generalize hw5 : w4.alloc (.cells #[.int .u64 (vi : Nat), .string vk, .slice A4 n4 c4] 40) = w5 at bu2 bv2 bpE p35 p45 qe T15 T25 ⊢
      have x0 := bpE.cell 0
      have x1 := bpE.cell 1
      simp only [List.getElem?_toArray, List.getElem?_cons_zero, List.getElem?_cons_succ] at x0 x1
      clear hw5 g3 g5 f3 f4 p3 p4 o3 o4 q3 q4 t1 h2 q2 bz qz qa
      have hU3 : n3 = UL.length := by obtain ⟨A, c, e⟩ := p35.form; injection e
      have hV4 : n4 = VL.length := by obtain ⟨A, c, e⟩ := p45.form; injection e
      have HU3 := Lib.hid hU3
      have HV4 := Lib.hid hV4
      rw [← hU3] at hUl
      rw [← hV4] at hVl
      have PA := Lib.hid p35
      have PB := Lib.hid p45
      clear hU3 hV4 p35 p45
      go_wp2_with fail
      go_loopw [14, 15] (fun WS I wr => ∃ i s : Nat, i ≤ n3 ∧ I = .int .i64 i ∧ WS = .int .i64 s ∧ s ≤ 5000 ∧ Hid (s = wasP (UL.take i) xn) ∧ D w5 wr) (fun _ I _ => n3 - (intOf I).toNat)
      case atStart => exact ⟨0, 0, Nat.zero_le _, rfl, rfl, by omega, Lib.hid (by simp [wasP, sizP]), D.refl _⟩
      case round =>
        obtain ⟨i, s, hil, rfl, rfl, hs, HS, d⟩ := hrel
        obtain ⟨m, rfl⟩ := d
        by_cases hlt : i < n3
        · have hltL : i < UL.length := by have := HU3.out; omega
          obtain ⟨a, c', hv, ha, -, hat⟩ := PA.out.pick i hltL
          injection hv with e1 e2 e3
          subst e1 e3
          obtain ⟨d0, d1⟩ := hat w5 (Q.refl w5)
          have hilt : (i : Int) < (n3 : Int) := by omega
          have YES := fun (e : UL[i].n = xn) => wasP_yes HOK.out hltL e
          have NO := fun (e : UL[i].n ≠ xn) => wasP_no (n := xn) hltL e
          have hsz := HSA.out _ (List.getElem_mem hltL)
          obtain ⟨y, hy⟩ : ∃ y, y = UL[i] := ⟨_, rfl⟩
          rw [← hy] at d0 d1 YES NO hsz
          obtain ⟨yn, yd⟩ := y
          simp only at d0 d1 YES NO hsz
          clear hat hy e2
          by_cases hyx : yn = xn
          · have HS2 := Lib.hid (YES hyx).symm
            subst hyx
            clear YES NO
            go_wp2_with fail
            go_region
            go_wp2
            go_roundw
            case rel => exact ⟨i + 1, yd.size, by omega, by go_num, by go_num, hsz, HS2, ⟨m + 1, by simp [Nat.add_comm]⟩⟩
            case measure => simp [intOf]; omega
          · have HS2 : Hid (s = wasP (UL.take (i + 1)) xn) := Lib.hid (by rw [NO hyx]; exact HS.out)
            clear YES NO
            go_wp2_with fail
            go_region
            go_wp2
            go_roundw
            case rel => exact ⟨i + 1, s, by omega, by go_num, rfl, hs, HS2, ⟨m + 1, by simp [Nat.add_comm]⟩⟩
            case measure => simp [intOf]; omega
        · have hilt : ¬ (i : Int) < (n3 : Int) := by omega
          have HW : Hid (oR + s = oL + xd.size) := Lib.hid (by
            have h1 := HS.out
            rw [List.take_of_length_le (by have := HU3.out; omega)] at h1
            have h2 := HOC.out
            rw [h1]; exact h2)
          clear x0
          have x0 := (bpE.cell 0)
          simp only [List.getElem?_toArray, List.getElem?_cons_zero, List.getElem?_cons_succ] at x0
          go_wp2_with fail
          go_loopw [16, 17] (fun TH I wy => ∃ i k : Nat, i ≤ n4 ∧ I = .int .i64 i ∧ TH = .int .i64 k ∧ k ≤ i ∧ Hid (k = ((VL.take i).filter (eqP ⟨xn, xd⟩)).length) ∧ D w5 wy) (fun _ I _ => n4 - (intOf I).toNat)
          case atStart => exact ⟨0, 0, Nat.zero_le _, rfl, rfl, Nat.zero_le _, Lib.hid (by simp), ⟨m, rfl⟩⟩
          case round =>
            clear hlt hilt hil
            obtain ⟨i, k, hil, rfl, rfl, hk, HK, d⟩ := hrel
            obtain ⟨m, rfl⟩ := d
            by_cases hlt : i < n4
            · have hltL : i < VL.length := by have := HV4.out; omega
              obtain ⟨a, c', hv, ha, -, hat⟩ := PB.out.pick i hltL
              injection hv with e1 e2 e3
              subst e1 e3
              obtain ⟨d0, d1⟩ := hat w5 (Q.refl w5)
              have hilt : (i : Int) < (n4 : Int) := by omega
              have NX := cnt_next (p := ⟨xn, xd⟩) hltL
              obtain ⟨y, hy⟩ : ∃ y, y = VL[i] := ⟨_, rfl⟩
              rw [← hy] at d0 d1 NX
              clear hat hy e2
              by_cases hyx : y = ⟨xn, xd⟩
              · have HS2 : Hid (k + 1 = ((VL.take (i + 1)).filter (eqP ⟨xn, xd⟩)).length) := Lib.hid (by rw [NX, eqP_yes hyx, ← HK.out]; rfl)
                subst hyx
                simp only at d0 d1
                clear NX
                go_wp2_with fail
                go_region
                go_wp2
                go_roundw
                case rel => exact ⟨i + 1, k + 1, by omega, by go_num, by go_num, by omega, HS2, ⟨m + 1, by simp [Nat.add_comm]⟩⟩
                case measure => simp [intOf]; omega
              · have HS2 : Hid (k = ((VL.take (i + 1)).filter (eqP ⟨xn, xd⟩)).length) := Lib.hid (by rw [NX, eqP_no hyx, ← HK.out]; rfl)
                have hne := part_ne hyx
                obtain ⟨yn, yd⟩ := y
                simp only at d0 d1 hne
                clear NX hyx
                rcases hne with h | ⟨rfl, h⟩
                · go_wp2_with fail
                  go_region
                  go_wp2
                  go_roundw
                  case rel => exact ⟨i + 1, k, by omega, by go_num, rfl, by omega, HS2, ⟨m + 1, by simp [Nat.add_comm]⟩⟩
                  case measure => simp [intOf]; omega
                · have h' : ¬ (yd.toList = xd.toList) := fun e => h (bl_inj (by rw [← toList_bl, ← toList_bl, e]))
                  clear h
                  go_wp2_with fail
                  go_region
                  go_wp2
                  go_roundw
                  case rel => exact ⟨i + 1, k, by omega, by go_num, rfl, by omega, HS2, ⟨m + 1, by simp [Nat.add_comm]⟩⟩
                  case measure => simp [intOf]; omega
            · have hilt : ¬ (i : Int) < (n4 : Int) := by omega
              have hk1 : k = 1 := by
                have h1 := HK.out
                rw [List.take_of_length_le (by have := HV4.out; omega), HCN.out] at h1
                exact h1
              subst hk1
              have hO : (oR : Int) = (oL : Int) - (s : Int) + (xd.size : Int) := by have := HW.out; omega
              have hw1 : IntKind.i64.wrap ((oL : Int) - (s : Int)) = (oL : Int) - (s : Int) := by rw [IntKind.wrap_i64]; omega
              have hw2 : IntKind.i64.wrap ((oL : Int) - (s : Int) + (xd.size : Int)) = (oL : Int) - (s : Int) + (xd.size : Int) := by rw [IntKind.wrap_i64]; omega
              have HSS : Hid (∀ b, Q w5 b → (fun W => W.cell? ⟨w.heap.size, 1, none⟩ = some (.string xd) ∧ Q w5 W) b) := Lib.hid fun b qb => ⟨by have := (bpE.on qb).cell 1; simp only [List.getElem?_toArray, List.getElem?_cons_zero, List.getElem?_cons_succ] at this; exact this, qb⟩
              have M1 : Hid (∀ d, (fun W => W.cell? ⟨w.heap.size, 1, none⟩ = some (.string xd) ∧ Q w5 W) d → Calls Try.prog 25 #[.slice A2 r.length c2] d fun e w' => e = .returned (.int .i64 (oR : Nat)) ∧ (fun W => W.cell? ⟨w.heap.size, 1, none⟩ = some (.string xd) ∧ Q w5 W) w') := Lib.hid fun d hd => (OC2 d _ (T25.on hd.2)).mono fun _ _ ⟨h1, h2⟩ => ⟨h1, HSS.out _ (hd.2.trans h2)⟩
              have M2 : Hid (∀ d, (fun W => W.cell? ⟨w.heap.size, 1, none⟩ = some (.string xd) ∧ Q w5 W) d → Calls Try.prog 25 #[.slice A1 L.length c1] d fun e w' => e = .returned (.int .i64 (oL : Nat)) ∧ (fun W => W.cell? ⟨w.heap.size, 1, none⟩ = some (.string xd) ∧ Q w5 W) w') := Lib.hid fun d hd => (OC1 d _ (T15.on hd.2)).mono fun _ _ ⟨h1, h2⟩ => ⟨h1, HSS.out _ (hd.2.trans h2)⟩
              have M3 : Hid (∀ d, (fun W => W.cell? ⟨w.heap.size, 1, none⟩ = some (.string xd) ∧ Q w5 W) d → Calls Try.prog 19 #[.slice A2 r.length c2] d fun e w' => e = .returned (.int .i64 0) ∧ (fun W => W.cell? ⟨w.heap.size, 1, none⟩ = some (.string xd) ∧ Q w5 W) w') := Lib.hid fun d hd => (CH d _ (T25.on hd.2)).mono fun _ _ ⟨h1, h2⟩ => ⟨h1, HSS.out _ (hd.2.trans h2)⟩
              have M4 : Hid (∀ d, (fun W => W.cell? ⟨w.heap.size, 1, none⟩ = some (.string xd) ∧ Q w5 W) d → Calls Try.prog 21 #[] d fun e w' => e = .returned (.bool true) ∧ (fun W => W.cell? ⟨w.heap.size, 1, none⟩ = some (.string xd) ∧ Q w5 W) w') := Lib.hid fun d hd => (AW.out d).mono fun _ _ ⟨h1, h2⟩ => ⟨h1, HSS.out _ (hd.2.trans h2)⟩
              clear OC1 OC2 CH T15 T25 T1 T2 FD1 FD2 LY
              go_wp2_with fail
              refine wp_region_held_drew (S := (fun W => W.cell? ⟨w.heap.size, 1, none⟩ = some (.string xd) ∧ Q w5 W)) (by kernel_rfl) (HSS.out _ (((Q.refl w5).drewN m).drew)) (fun hHeld => ?_)
              refine wpAnyH_take (i := 0) (oi := _) (v := ?_) rfl (by kernel_rfl) (by kernel_rfl) (by kernel_rfl) (fun _ _ _ h => h) (Or.inl ⟨by rfl, ?_⟩) (by assumption) ?_
              rotate_left
              · (intro wx hSw; (try dsimp only at hSw); go_simp; (try with_reducible rfl))
              (try simp only [Act.put, List.getElem_toArray, List.getElem_cons_zero, List.getElem_cons_succ, List.setIfInBounds_toArray, List.set_cons_zero, List.set_cons_succ])
              refine wpAnyH_take (i := 2) (oi := _) (v := ?_) rfl (by kernel_rfl) (by kernel_rfl) (by kernel_rfl) (fun _ _ _ h => h) (Or.inl ⟨by rfl, ?_⟩) (by assumption) ?_
              rotate_left
              · (intro wx hSw; (try dsimp only at hSw); go_simp; (try with_reducible rfl))
              (try simp only [Act.put, List.getElem_toArray, List.getElem_cons_zero, List.getElem_cons_succ, List.setIfInBounds_toArray, List.set_cons_zero, List.set_cons_succ])
              refine wpAnyH_take (i := 4) (oi := _) (v := ?_) rfl (by kernel_rfl) (by kernel_rfl) (by kernel_rfl) (fun _ _ _ h => h) (Or.inl ⟨by rfl, ?_⟩) (by assumption) ?_
              rotate_left
              · (intro wx hSw; (try dsimp only at hSw); go_simp; (try with_reducible rfl))
              (try simp only [Act.put, List.getElem_toArray, List.getElem_cons_zero, List.getElem_cons_succ, List.setIfInBounds_toArray, List.set_cons_zero, List.set_cons_succ])
              refine wpAnyH_take (i := 6) (oi := _) (v := ?_) rfl (by kernel_rfl) (by kernel_rfl) (by kernel_rfl) (fun _ _ _ h => h) (Or.inl ⟨by rfl, ?_⟩) (by assumption) ?_
              rotate_left
              · (intro wx hSw; (try dsimp only at hSw); go_simp; (try with_reducible rfl))
              (try simp only [Act.put, List.getElem_toArray, List.getElem_cons_zero, List.getElem_cons_succ, List.setIfInBounds_toArray, List.set_cons_zero, List.set_cons_succ])
              refine wpAnyH_take (i := 7) (oi := _) (v := ?_) rfl (by kernel_rfl) (by kernel_rfl) (by kernel_rfl) (fun _ _ _ h => h) (Or.inl ⟨by rfl, ?_⟩) (by assumption) ?_
              rotate_left
              · (intro wx hSw; (try dsimp only at hSw); go_simp; (try with_reducible rfl))
              (try simp only [Act.put, List.getElem_toArray, List.getElem_cons_zero, List.getElem_cons_succ, List.setIfInBounds_toArray, List.set_cons_zero, List.set_cons_succ])
              refine wpAnyH_take (i := 8) (oi := _) (v := ?_) rfl (by kernel_rfl) (by kernel_rfl) (by kernel_rfl) (fun _ _ _ h => h) (Or.inl ⟨by rfl, ?_⟩) (by assumption) ?_
              rotate_left
              · (intro wx hSw; (try dsimp only at hSw); go_simp; (try with_reducible rfl))
              (try simp only [Act.put, List.getElem_toArray, List.getElem_cons_zero, List.getElem_cons_succ, List.setIfInBounds_toArray, List.set_cons_zero, List.set_cons_succ])
              refine wpAnyH_ready (rs := [1]) (by kernel_rfl) (by simp) ?_
              refine AllReadyH.cons (o := _) rfl (fun K hK => ?_) AllReadyH.nil
              go_simp
              go_at_call 25
              refine (M1.out _ (by assumption)).mono ?_
              rintro e w' ⟨rfl, hS⟩
              refine hK.out _ _ hS (fun hHeld => ?_)
              clear hK K
              (try simp only [Act.put, List.getElem_toArray, List.getElem_cons_zero, List.getElem_cons_succ, List.setIfInBounds_toArray, List.set_cons_zero, List.set_cons_succ])
              refine wpAnyH_ready (rs := [3]) (by kernel_rfl) (by simp) ?_
              refine AllReadyH.cons (o := _) rfl (fun K hK => ?_) AllReadyH.nil
              go_simp
              go_at_call 25
              refine (M2.out _ (by assumption)).mono ?_
              rintro e w' ⟨rfl, hS⟩
              refine hK.out _ _ hS (fun hHeld => ?_)
              clear hK K
              (try simp only [Act.put, List.getElem_toArray, List.getElem_cons_zero, List.getElem_cons_succ, List.setIfInBounds_toArray, List.set_cons_zero, List.set_cons_succ])
              refine wpAnyH_take (i := 5) (oi := _) (v := ?_) rfl (by kernel_rfl) (by kernel_rfl) (by kernel_rfl) (fun _ _ _ h => h) (Or.inl ⟨by rfl, ?_⟩) (by assumption) ?_
              rotate_left
              · (intro wx hSw; (try dsimp only at hSw); go_simp; (try with_reducible rfl))
              (try simp only [Act.put, List.getElem_toArray, List.getElem_cons_zero, List.getElem_cons_succ, List.setIfInBounds_toArray, List.set_cons_zero, List.set_cons_succ])
              refine wpAnyH_take (i := 9) (oi := _) (v := ?_) rfl (by kernel_rfl) (by kernel_rfl) (by kernel_rfl) (fun _ _ _ h => h) (Or.inl ⟨by rfl, ?_⟩) (by assumption) ?_
              rotate_left
              · (intro wx hSw; (try dsimp only at hSw); go_simp; (try with_reducible rfl))
              (try simp only [Act.put, List.getElem_toArray, List.getElem_cons_zero, List.getElem_cons_succ, List.setIfInBounds_toArray, List.set_cons_zero, List.set_cons_succ])
              refine wpAnyH_take (i := 10) (oi := _) (v := .bool true) rfl (by kernel_rfl) (by kernel_rfl) (by kernel_rfl) (fun _ _ _ h => h) (Or.inl ⟨by rfl, ?_⟩) (by assumption) ?_
              · (intro wx hSw; (try dsimp only at hSw); go_simp; (try omega); (try simp [*]); (try omega))
              (try simp only [Act.put, List.getElem_toArray, List.getElem_cons_zero, List.getElem_cons_succ, List.setIfInBounds_toArray, List.set_cons_zero, List.set_cons_succ])
              refine wpAnyH_take (i := 11) (oi := _) (v := .bool true) rfl (by kernel_rfl) (by kernel_rfl) (by kernel_rfl) (fun _ _ _ h => h) (Or.inl ⟨by rfl, ?_⟩) (by assumption) ?_
              · (intro wx hSw; (try dsimp only at hSw); go_simp; (try omega); (try simp [*]); (try omega))
              (try simp only [Act.put, List.getElem_toArray, List.getElem_cons_zero, List.getElem_cons_succ, List.setIfInBounds_toArray, List.set_cons_zero, List.set_cons_succ])
              refine wpAnyH_take (i := 12) (oi := _) (v := ?_) rfl (by kernel_rfl) (by kernel_rfl) (by kernel_rfl) (fun _ _ _ h => h) (Or.inl ⟨by rfl, ?_⟩) (by assumption) ?_
              rotate_left
              · (intro wx hSw; (try dsimp only at hSw); go_simp; (try with_reducible rfl))
              (try simp only [Act.put, List.getElem_toArray, List.getElem_cons_zero, List.getElem_cons_succ, List.setIfInBounds_toArray, List.set_cons_zero, List.set_cons_succ])
              refine wpAnyH_take (i := 13) (oi := _) (v := .bool true) rfl (by kernel_rfl) (by kernel_rfl) (by kernel_rfl) (fun _ _ _ h => h) (Or.inl ⟨by rfl, ?_⟩) (by assumption) ?_
              · (intro wx hSw; (try dsimp only at hSw); go_simp; (try omega); (try simp [*]); (try omega))
              (try simp only [Act.put, List.getElem_toArray, List.getElem_cons_zero, List.getElem_cons_succ, List.setIfInBounds_toArray, List.set_cons_zero, List.set_cons_succ])
              refine wpAnyH_take (i := 14) (oi := _) (v := .bool true) rfl (by kernel_rfl) (by kernel_rfl) (by kernel_rfl) (fun _ _ _ h => h) (Or.inl ⟨by rfl, ?_⟩) (by assumption) ?_
              · (intro wx hSw; (try dsimp only at hSw); go_simp; (try omega); (try simp [*]); (try omega))
              (try simp only [Act.put, List.getElem_toArray, List.getElem_cons_zero, List.getElem_cons_succ, List.setIfInBounds_toArray, List.set_cons_zero, List.set_cons_succ])
              refine wpAnyH_take (i := 15) (oi := _) (v := .bool true) rfl (by kernel_rfl) (by kernel_rfl) (by kernel_rfl) (fun _ _ _ h => h) (Or.inl ⟨by rfl, ?_⟩) (by assumption) ?_
              · (intro wx hSw; (try dsimp only at hSw); go_simp; (try omega); (try simp [*]); (try omega))
              (try simp only [Act.put, List.getElem_toArray, List.getElem_cons_zero, List.getElem_cons_succ, List.setIfInBounds_toArray, List.set_cons_zero, List.set_cons_succ])
              refine wpAnyH_take (i := 16) (oi := _) (v := ?_) rfl (by kernel_rfl) (by kernel_rfl) (by kernel_rfl) (fun _ _ _ h => h) (Or.inl ⟨by rfl, ?_⟩) (by assumption) ?_
              rotate_left
              · (intro wx hSw; (try dsimp only at hSw); go_simp; (try with_reducible rfl))
              (try simp only [Act.put, List.getElem_toArray, List.getElem_cons_zero, List.getElem_cons_succ, List.setIfInBounds_toArray, List.set_cons_zero, List.set_cons_succ])
              refine wpAnyH_ready (rs := [17]) (by kernel_rfl) (by simp) ?_
              refine AllReadyH.cons (o := _) rfl (fun K hK => ?_) AllReadyH.nil
              go_simp
              go_at_call 19
              refine (M3.out _ (by assumption)).mono ?_
              rintro e w' ⟨rfl, hS⟩
              refine hK.out _ _ hS (fun hHeld => ?_)
              clear hK K
              (try simp only [Act.put, List.getElem_toArray, List.getElem_cons_zero, List.getElem_cons_succ, List.setIfInBounds_toArray, List.set_cons_zero, List.set_cons_succ])
              refine wpAnyH_take (i := 18) (oi := _) (v := .bool true) rfl (by kernel_rfl) (by kernel_rfl) (by kernel_rfl) (fun _ _ _ h => h) (Or.inl ⟨by rfl, ?_⟩) (by assumption) ?_
              · (intro wx hSw; (try dsimp only at hSw); go_simp; (try omega); (try simp [*]); (try omega))
              (try simp only [Act.put, List.getElem_toArray, List.getElem_cons_zero, List.getElem_cons_succ, List.setIfInBounds_toArray, List.set_cons_zero, List.set_cons_succ])
              refine wpAnyH_take (i := 19) (oi := _) (v := .bool true) rfl (by kernel_rfl) (by kernel_rfl) (by kernel_rfl) (fun _ _ _ h => h) (Or.inl ⟨by rfl, ?_⟩) (by assumption) ?_
              · (intro wx hSw; (try dsimp only at hSw); go_simp; (try omega); (try simp [*]); (try omega))
              (try simp only [Act.put, List.getElem_toArray, List.getElem_cons_zero, List.getElem_cons_succ, List.setIfInBounds_toArray, List.set_cons_zero, List.set_cons_succ])
              refine wpAnyH_take (i := 20) (oi := _) (v := .bool true) rfl (by kernel_rfl) (by kernel_rfl) (by kernel_rfl) (fun _ _ _ h => h) (Or.inl ⟨by rfl, ?_⟩) (by assumption) ?_
              · (intro wx hSw; (try dsimp only at hSw); go_simp; (try omega); (try simp [*]); (try omega))
              (try simp only [Act.put, List.getElem_toArray, List.getElem_cons_zero, List.getElem_cons_succ, List.setIfInBounds_toArray, List.set_cons_zero, List.set_cons_succ])
              refine wpAnyH_ready (rs := [21]) (by kernel_rfl) (by simp) ?_
              refine AllReadyH.cons (o := _) rfl (fun K hK => ?_) AllReadyH.nil
              go_simp
              go_at_call 21
              refine (M4.out _ (by assumption)).mono ?_
              rintro e w' ⟨rfl, hS⟩
              refine hK.out _ _ hS (fun hHeld => ?_)
              clear hK K
              (try simp only [Act.put, List.getElem_toArray, List.getElem_cons_zero, List.getElem_cons_succ, List.setIfInBounds_toArray, List.set_cons_zero, List.set_cons_succ])
              refine wpAnyH_take (i := 22) (oi := _) (v := .bool true) rfl (by kernel_rfl) (by kernel_rfl) (by kernel_rfl) (fun _ _ _ h => h) (Or.inl ⟨by rfl, ?_⟩) (by assumption) ?_
              · (intro wx hSw; (try dsimp only at hSw); go_simp; (try omega); (try simp [*]); (try omega))
              (try simp only [Act.put, List.getElem_toArray, List.getElem_cons_zero, List.getElem_cons_succ, List.setIfInBounds_toArray, List.set_cons_zero, List.set_cons_succ])
              refine wpAnyH_take (i := 23) (oi := _) (v := ?_) rfl (by kernel_rfl) (by kernel_rfl) (by kernel_rfl) (fun _ _ _ h => h) (Or.inl ⟨by rfl, ?_⟩) (by assumption) ?_
              rotate_left
              · (intro wx hSw; (try dsimp only at hSw); go_simp; (try with_reducible rfl))
              (try simp only [Act.put, List.getElem_toArray, List.getElem_cons_zero, List.getElem_cons_succ, List.setIfInBounds_toArray, List.set_cons_zero, List.set_cons_succ])
              refine wpAnyH_done (by kernel_rfl) ?_ _
              have q9 := hHeld.2
              clear hHeld
              go_wp2
              go_ret
              exact ⟨rfl, qe.trans q9⟩
    · have hni : ¬ (n : Int) = 0 := by omega
      clear hn
      go_wp2_with fail
      refine (AW.out _).mono ?_
      rintro e w9 ⟨rfl, q9⟩
      go_wp2
      go_ret
      exact ⟨rfl, qz.trans (q2.trans q9)⟩

set_option maxRecDepth 100000 in
theorem lifted (os : Os) (started : os.Started) (H : Type) (enc : TypeId × Value → H) :
    ReturnsInHanded {} Try.checked os 8 .any (Rows.partsCountsSpec.pre6 enc Try.prog Try.f8 Rows.partsCountsRow.domain false) (Rows.partsCountsSpec.post enc Try.prog Try.f8 false true false false) := by
  refine returnsInHanded_of_change (C := Try.checked) own started (by kernel_rfl) Try.func8
    (ChangeSpec.witness6 (enc := enc) (C := Try.checked) false ⟨#[], #[.slice none 0 0, .int .u64 0, .agg #[.int .i64 0, .string ByteArray.empty]], []⟩ 8 (by kernel_rfl) (by kernel_rfl) (by kernel_rfl) (by kernel_rfl)) ?_
  intro W base args ds gs before hval0 hW hcnd _
  have hval : ∀ (j : Nat) t v, Try.f8.params[j]? = some t → args[j]? = some v → Value.okWide Try.prog W .any base t v := hval0
  have hW' := hW
  obtain ⟨p, q, hA0, hV, rfl, hfz, hnd⟩ := hW
  have hA : DataW.TrodAll enc Try.prog W 0 (fun _ => true) true Try.f8.params.toList args.toList ds p := hA0
  rw [Try.params8] at hA hval
  obtain ⟨v0, vs0, d0, ds0, p0, q0, hargs, rfl, rfl, h0, r0⟩ := trodAll_cons hA
  obtain ⟨v1, vs1, d1, ds1, p1, q1, rfl, rfl, rfl, h1, r1⟩ := trodAll_cons r0
  obtain ⟨v2, vs2, d2, ds2, p2, q2, rfl, rfl, rfl, h2, r2⟩ := trodAll_cons r1
  obtain ⟨rfl, rfl, rfl⟩ := trodAll_nil r2
  obtain rfl : args = #[v0, v1, v2] := by cases args; simp_all
  obtain ⟨rfl, rfl⟩ := trodVars_none hV
  clear hA0 hval0
  simp only [List.append_nil] at hW'
  have hlt : ∀ x ∈ p0 ++ p1 ++ p2, x.block < W.heap.size := fun x hx => by simpa using hW'.lt x (by simpa using hx)
  obtain ⟨l0, t0, z0⟩ := open_upls (hval 0 22 v0 rfl rfl) h0
  obtain ⟨a1, rfl, -, -, w1⟩ := open_int Try.underlying23 (hval 1 23 v1 rfl rfl) h1
  obtain ⟨x2, rfl, u2⟩ := open_part (hval 2 25 v2 rfl rfl) h2
  refine (walk l0 v0 a1 x2 W t0 z0 w1 u2).mono fun e W' ⟨he, bel⟩ => ?_
  subst he
  refine ⟨_, rfl, _, _, _, [], _, [], hW', trodAll_mk1 (shut_bool Try.underlying4 _), (trodAll_cons_mk (Below.trod laid (by kernel_rfl) (of_decide_eq_true (by kernel_rfl)) h0 bel (fun x hx => hlt x (by simp [hx]))) (trodAll_cons_mk (Below.trod laid (by kernel_rfl) (of_decide_eq_true (by kernel_rfl)) h1 bel (fun x hx => hlt x (by simp [hx]))) (trodAll_cons_mk (Below.trod laid (by kernel_rfl) (of_decide_eq_true (by kernel_rfl)) h2 bel (fun x hx => hlt x (by simp [hx]))) trodAll_mk0))), rfl, Below.frame bel _, fun h => by cases h⟩

theorem over : Rows.partsCountsRow.holds Try.pinned (OpenSpec.ofChange Rows.partsCountsSpec) :=
  OpenClaim.holds_of_wide 8 Try.f8 rfl rfl rfl rfl rfl rfl rfl ⟨rfl, rfl, rfl, rfl, rfl⟩ rfl rfl rfl rfl rfl (by kernel_rfl) Try.func8 (by kernel_rfl)
    (of_decide_eq_true (by kernel_rfl)) (by unfold Func.isWrapper; first | (rw [if_pos (by decide +kernel)]; kernel_rfl) | (rw [if_neg (by decide +kernel)]; exact ⟨rfl, rfl⟩))
    (fun os started H enc _ => lifted os started H enc)

theorem proved : Rows.PartsCountsSaid := over
#print axioms proved
end Go.Proofs.Ytlahccmlnbdekaa.partsCounts
