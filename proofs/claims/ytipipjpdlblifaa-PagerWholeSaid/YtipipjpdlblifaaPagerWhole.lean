/-
  Proved: whatever is asked PagerWhole for, with whatever sizes, it returns true and leaves what it was given as it was. No condition.
-/
import Derived.Test.YtipipjpdlblifaaGByts
import Derived.Test.YtipipjpdlblifaaGMap
namespace Go.Proofs.Ytipipjpdlblifaa.pagerWhole
open Go.ChangeShapes Go.WideShapes Go.ChangeAt Go.RowKit
open Go.ChangeMaps (open_string shut_string)
set_option linter.unusedVariables false
set_option linter.unusedSimpArgs false

set_option maxHeartbeats 8000000 in
set_option maxRecDepth 100000 in
theorem walk (u : Value) (l : List Ent) (pp dd key : ByteArray) (id : Nat) (m : Int) (sz : List Nat) (zv : Value) (w : World) (t0 : Ents w w.heap.size u l) (z0 : l.length ≤ maxLen) (sp : pp.size ≤ maxLen) (sd : dd.size ≤ maxLen) (sk : key.size ≤ maxLen) (si : id < 18446744073709551616) (sm : -9223372036854775808 ≤ m) (sn : m ≤ 9223372036854775807) (bz : Byts w w.heap.size zv sz) (zz : sz.length ≤ maxLen) :
    Calls Try.prog 5 #[.agg #[u, .string pp, .string dd, .string key, .int .u64 (id : Nat), .int .i64 m], zv] w fun e w' => e = .returned (.bool true) ∧ Q w w' := by
  have hlen : (fewE l).length ≤ 61 := fewE_len l
  have hs : Small (fewE l) := tiny_small (by omega) (fewE_tiny l)
  have hks := fewS_size pp
  have hds := fewS_size dd
  have has := fewS_size key
  have CU := Lib.hid fun b (q : Q w b) => cut_ask l u pp dd key id m b z0 sp sd sk (t0.on q)
  obtain ⟨L, hL⟩ : ∃ L, L = fewE l := ⟨_, rfl⟩
  obtain ⟨k, hk⟩ : ∃ k, k = fewS pp := ⟨_, rfl⟩
  obtain ⟨d, hd⟩ : ∃ d, d = fewS dd := ⟨_, rfl⟩
  obtain ⟨a, ha⟩ : ∃ a, a = fewS key := ⟨_, rfl⟩
  rw [← hL] at hlen hs CU
  rw [← hk] at hks CU
  rw [← hd] at hds CU
  rw [← ha] at has CU
  clear hL hk hd ha
  have hL1 := hs.1
  obtain ⟨R, hR⟩ := chkI_ex L
  obtain ⟨N, kn, hN, TC⟩ := things_whole L k d R hR hs (by omega) (by omega)
  have BZ := Lib.hid bz
  obtain ⟨SA, sc, rfl, -, -⟩ := bz
  have hmm := @run_makeMap Try.prog
  have qb : Q w (w.alloc (.cells #[u, .string pp, .string dd, .string key, .int .u64 (id : Nat), .int .i64 m] 25)) := (Q.refl w).alloc _
  have bx := Bx.new w 25 #[u, .string pp, .string dd, .string key, .int .u64 (id : Nat), .int .i64 m]
  obtain ⟨A0, c0, rfl⟩ := t0.form
  go_enter Try.func5, Try.ntmps5
  go_wp2_with fail
  refine (CU.out _ qb).mono ?_
  rintro e w1 ⟨u1, rfl, e1, q1⟩
  obtain ⟨A1, c1, rfl⟩ := e1.form
  have bq := bx.on q1
  have x0 := bq.cell 0
  have x1 := bq.cell 1
  have x2 := bq.cell 2
  have x3 := bq.cell 3
  have x4 := bq.cell 4
  have x5 := bq.cell 5
  have f0 := bq.frozen 0
  have f1 := bq.frozen 1
  have f2 := bq.frozen 2
  have f3 := bq.frozen 3
  have f4 := bq.frozen 4
  have f5 := bq.frozen 5
  simp only [List.getElem?_toArray, List.getElem?_cons_zero, List.getElem?_cons_succ] at x0 x1 x2 x3 x4 x5
  obtain ⟨wA, hwA⟩ : ∃ wA, wA = (((((w1.setCell ⟨w.heap.size, 0, none⟩ (.slice A1 L.length c1)).setCell ⟨w.heap.size, 1, none⟩ (.string k)).setCell ⟨w.heap.size, 2, none⟩ (.string d)).setCell ⟨w.heap.size, 3, none⟩ (.string a)).setCell ⟨w.heap.size, 4, none⟩ (.int .u64 (id : Nat))).setCell ⟨w.heap.size, 5, none⟩ (.int .i64 m) := ⟨_, rfl⟩
  have bA : Bx wA w.heap.size 25 #[.slice A1 L.length c1, .string k, .string d, .string a, .int .u64 (id : Nat), .int .i64 m] := by
    rw [hwA]; exact (((((bq.set 0 _).set 1 _).set 2 _).set 3 _).set 4 _).set 5 _
  have qA : Q w wA := by rw [hwA]; exact Q.set (Q.set (Q.set (Q.set (Q.set (Q.set (qb.trans q1) (Nat.le_refl _) _) (Nat.le_refl _) _) (Nat.le_refl _) _) (Nat.le_refl _) _) (Nat.le_refl _) _) (Nat.le_refl _) _
  have t1 : Hid (Ents wA wA.heap.size (.slice A1 L.length c1) L) := Lib.hid (e1.boxed (B := w.heap.size) (t := 25) bq (fun j hj => by rw [hwA]; exact (heap_set _ _ _ _ hj).trans ((heap_set _ _ _ _ hj).trans ((heap_set _ _ _ _ hj).trans ((heap_set _ _ _ _ hj).trans ((heap_set _ _ _ _ hj).trans (heap_set _ _ _ _ hj)))))) (by rw [hwA]; simp))
  have HWA := Lib.hid hwA
  clear bx bq e1 q1 qb t0 hwA
  go_wp2_with fail
  rw [← HWA.out]
  clear HWA x0 x1 x2 x3 x4 x5 f0 f1 f2 f3 f4 f5
  refine (TC.out _ _ t1.out).mono ?_
  rintro e w4 ⟨A4, c4, rfl, e4, q4⟩
  have t4 := Lib.hid e4
  clear e4
  rcases hN with ⟨h, hI, hN, rfl⟩ | ⟨h, rfl, rfl⟩
  · simp only [Bool.and_eq_true] at h
    obtain ⟨⟨-, hk1⟩, hd1⟩ := h
    have hkl : ∀ e ∈ L, hasO 1 60 ko e.key = true := fun e he => ((okI_iff.1 hI).2.2 e he).1
    have hTl := (thF_all (okI_iff.1 hI).2.1 hkl hk1 hd1).len
    have hL60 := hI.1
    have hNl : N.length ≤ 60 := by rw [hN, List.length_map]; omega
    have NSZ : Hid (∀ s ∈ N, s.size ≤ 1000) := Lib.hid (things_size hN hI hk1 hd1)
    have WP := Lib.hid fun n hn m h1 h2 => whole_page (n := n) (most := m) hN hI hs hk1 hd1 hn h1 h2
    obtain ⟨AF, hAF⟩ : ∃ AF, AF = afN k d L := ⟨_, rfl⟩
    rw [← hAF] at WP
    have HA0 : Hid (AF 0 = ⟨#[]⟩) := Lib.hid (by rw [hAF]; rfl)
    clear hAF hkl hTl hL60 hk1 hd1 hI hs hR hN
    go_wp2_with fail
    go_loopw [7, 8, 9] (fun A M I wr => ∃ i n : Nat, i ≤ n ∧ n ≤ N.length ∧ I = .int .i64 i ∧ M = .int .i64 n ∧ A = .string (AF n) ∧ Q w4 wr) (fun _ _ I _ => N.length + 1 - (intOf I).toNat)
    case atStart => exact ⟨0, 0, Nat.le_refl _, Nat.zero_le _, rfl, rfl, by rw [HA0.out], Q.refl _⟩
    case round =>
      obtain ⟨i, n, hin, hn, rfl, rfl, rfl, q6⟩ := hrel
      have hilt : (i : Int) ≤ (N.length : Int) := by omega
      go_upto_if 42 with fail
      go_cut [10] from 42 to 49 (fun M wx => (∃ m : Nat, 1 ≤ m ∧ m ≤ 5 ∧ M = .int .i64 m) ∧ Q w4 wx)
      case first =>
        by_cases hiS : i < sz.length
        · have hiS2 : (i : Int) < (sz.length : Int) := by omega
          obtain ⟨A', k', eA, -, fA⟩ := BZ.out.on ((qA.trans q4).trans q6)
          injection eA with eA1 eA2 eA3
          subst eA1 eA3
          clear eA2
          obtain ⟨a5, rfl, -, hs5, cell⟩ := fA i hiS
          obtain ⟨s, hs0⟩ : ∃ s, s = sz[i] := ⟨_, rfl⟩
          rw [← hs0] at cell hs5
          have hmod : Int.tmod (s : Int) 5 = ((s % 5 : Nat) : Int) := (Int.ofNat_tmod s 5).symm
          clear hs0 fA
          go_wp2_with fail
          go_meet
          exact ⟨⟨1 + s % 5, by omega, by omega, by go_num⟩, q6⟩
        · have hiS2 : ¬ (i : Int) < (sz.length : Int) := by omega
          go_wp2_with fail
          go_meet
          exact ⟨⟨1, by omega, by omega, rfl⟩, q6⟩
      case rest =>
      obtain ⟨⟨m, m1, m5, rfl⟩, q7⟩ := hcut
      clear q6
      obtain ⟨⟨ks, gs, mo, la⟩, qk, PF, KC⟩ := WP.out n hn m m1 (by omega)
      cases mo with
      | false =>
        have hsum := PF.sum
        simp only at hsum
        subst hsum
        have hle := PF.le
        have hmo := PF.more
        have hfull := PF.full
        have hlast := PF.last
        have hlk := PF.lkey
        simp only at hle hmo hfull hlast hlk
        have HAS := Lib.hid PF.has
        have SZK := Lib.hid PF.szk
        have SZG := Lib.hid PF.szg
        simp only at HAS SZK SZG
        clear PF
        have hlt : n + (ks.length + gs.length) = N.length := by
          have := of_decide_eq_false hmo.symm
          omega
        have v2 : ¬ (n : Int) + ((ks.length : Int) + (gs.length : Int)) < (N.length : Int) := by omega
        have v4 : ((n : Int) + ((ks.length : Int) + (gs.length : Int)) == (N.length : Int)) = true := by simp; omega
        clear hlk
        have v3 : ¬ (N.length : Int) < (n : Int) + ((ks.length : Int) + (gs.length : Int)) := by omega
        have hks : ks.length ≤ 60 := by omega
        have hgs : gs.length ≤ 60 := by omega
        clear hmo hfull hlast hlt
        unfold KeysR at KC
        simp only at KC
        have bKx := bA.on (q4.trans q7)
        have x0 := bKx.cell 0
        have x1 := bKx.cell 1
        have x2 := bKx.cell 2
        simp only [List.getElem?_toArray, List.getElem?_cons_zero, List.getElem?_cons_succ] at x0 x1 x2
        go_wp2_with fail
        refine (KC.out _ _ (t1.out.on (q4.trans q7))).mono ?_
        rintro e w8 ⟨A8, c8, B8, d8, r8, rfl, e8, g8, q8⟩
        have T8 := Lib.hid e8
        have G8 := Lib.hid g8
        clear e8 g8 x0 x1 x2 bKx r8
        have n8 := Bx.new w8 29 #[.slice A8 ks.length c8, .slice B8 gs.length d8, .bool false, .string la]
        have q9 := (Q.refl w8).alloc (.cells #[.slice A8 ks.length c8, .slice B8 gs.length d8, .bool false, .string la] 29)
        have p0 := n8.cell 0
        have p1 := n8.cell 1
        have p2 := n8.cell 2
        have p3 := n8.cell 3
        simp only [List.getElem?_toArray, List.getElem?_cons_zero, List.getElem?_cons_succ] at p0 p1 p2 p3
        have IM0 := InM.made (w8.alloc (.cells #[.slice A8 ks.length c8, .slice B8 gs.length d8, .bool false, .string la] 29))
        simp only [World.size_alloc] at IM0
        have QM := (Q.refl (w8.alloc (.cells #[.slice A8 ks.length c8, .slice B8 gs.length d8, .bool false, .string la] 29))).alloc (.map #[] 0)
        have HS9 := Lib.hid (World.size_alloc w8 (.cells #[.slice A8 ks.length c8, .slice B8 gs.length d8, .bool false, .string la] 29))
        have IM9 := Lib.hid IM0
        have QM9 := Lib.hid QM
        clear IM0 QM
        obtain ⟨w9, hw9⟩ : ∃ w9, w9 = w8.alloc (.cells #[.slice A8 ks.length c8, .slice B8 gs.length d8, .bool false, .string la] 29) := ⟨_, rfl⟩
        rw [← hw9] at n8 q9 HS9 IM9 QM9
        have HW9 := Lib.hid hw9
        clear hw9
        go_wp2_with fail
        rw [← HW9.out]
        go_loopw [15] (fun J wr2 => ∃ j : Nat, j ≤ ks.length ∧ J = .int .i64 j ∧ InM (w8.heap.size + 1) j (ks.take j) wr2 ∧ Q w9 wr2) (fun J _ => ks.length - (intOf J).toNat)
        case atStart => exact ⟨0, Nat.zero_le _, rfl, IM9.out, QM9.out⟩
        case round =>
          obtain ⟨j, hj, rfl, im, q10⟩ := hrel
          have bp0 := (n8.on q10).cell 0
          simp only [List.getElem?_toArray, List.getElem?_cons_zero, List.getElem?_cons_succ] at bp0
          by_cases hjk : j < ks.length
          · have hjk2 : (j : Int) < (ks.length : Int) := by omega
            obtain ⟨A', k', eA, fA⟩ := T8.out.on (q9.trans q10)
            injection eA with eA1 eA2 eA3
            subst eA1 eA3
            clear eA2
            obtain ⟨a8, rfl, -, cell⟩ := fA j hjk
            have HSZ := SZK.out _ (List.getElem_mem hjk)
            have HTK := Lib.hid (show ks.take j ++ [ks[j]] = ks.take (j + 1) from (List.take_succ_eq_append_getElem hjk).symm)
            obtain ⟨s, hs0⟩ : ∃ s, s = ks[j] := ⟨_, rfl⟩
            rw [← hs0] at cell HSZ HTK
            have IM := Lib.hid im
            clear hs0 fA im
            go_wp2_with (first | (at_mapUpdate; refine wpList_inM_put IM.out rfl _ _ _ rfl (by omega) s HSZ rfl rfl rfl ?_; intro w11 im11 g11) | fail)
            rw [HTK.out] at im11
            go_roundw
            case rel => exact ⟨j + 1, hjk, by go_num, im11, q10.mapped g11 (by have := HS9.out; omega)⟩
            case measure => simp [intOf]; omega
          · obtain rfl : j = ks.length := by omega
            rw [List.take_length] at im
            have IM := Lib.hid im
            clear im
            go_wp2_with fail
            go_loopw [16] (fun J wr3 => ∃ j : Nat, j ≤ gs.length ∧ J = .int .i64 j ∧ InM (w8.heap.size + 1) (ks.length + j) (ks ++ gs.take j) wr3 ∧ Q w9 wr3) (fun J _ => gs.length - (intOf J).toNat)
            case atStart => exact ⟨0, Nat.zero_le _, rfl, by rw [List.take_zero, List.append_nil]; exact IM.out, q10⟩
            clear bp0 q10 IM
            case round =>
              obtain ⟨j, hj, rfl, im, q10⟩ := hrel
              have bp1 := (n8.on q10).cell 1
              simp only [List.getElem?_toArray, List.getElem?_cons_zero, List.getElem?_cons_succ] at bp1
              by_cases hjk : j < gs.length
              · have hjk2 : (j : Int) < (gs.length : Int) := by omega
                obtain ⟨A', k', eA, fA⟩ := G8.out.on (q9.trans q10)
                injection eA with eA1 eA2 eA3
                subst eA1 eA3
                clear eA2
                obtain ⟨a8, rfl, -, cell⟩ := fA j hjk
                have HSZ := SZG.out _ (List.getElem_mem hjk)
                have HTK := Lib.hid (show ks ++ gs.take j ++ [gs[j]] = ks ++ gs.take (j + 1) by rw [List.append_assoc, List.take_succ_eq_append_getElem hjk])
                obtain ⟨s, hs0⟩ : ∃ s, s = gs[j] := ⟨_, rfl⟩
                rw [← hs0] at cell HSZ HTK
                have IM := Lib.hid im
                clear hs0 fA im
                go_wp2_with (first | (at_mapUpdate; refine wpList_inM_put IM.out rfl _ _ _ rfl (by omega) s HSZ rfl rfl rfl ?_; intro w11 im11 g11) | fail)
                rw [HTK.out] at im11
                go_roundw
                case rel => exact ⟨j + 1, hjk, by go_num, im11, q10.mapped g11 (by have := HS9.out; omega)⟩
                case measure => simp [intOf]; omega
              · obtain rfl : j = gs.length := by omega
                rw [List.take_length] at im
                have IM := Lib.hid im
                clear im
                go_wp2_with fail
                go_loopw [17] (fun J wr4 => ∃ j : Nat, j ≤ ks.length + gs.length ∧ J = .int .i64 j ∧ InM (w8.heap.size + 1) (ks.length + gs.length) (ks ++ gs) wr4 ∧ Q w9 wr4) (fun J _ => ks.length + gs.length - (intOf J).toNat)
                case atStart => exact ⟨0, Nat.zero_le _, rfl, IM.out, q10⟩
                clear bp1 q10 IM
                case round =>
                  obtain ⟨j, hj, rfl, im, q10⟩ := hrel
                  by_cases hjk : j < ks.length + gs.length
                  · have hjk2 : (j : Int) < (ks.length : Int) + (gs.length : Int) := by omega
                    obtain ⟨hnj, hmem⟩ := HAS.out j hjk
                    have hnj2 : (n : Int) + (j : Int) < (N.length : Int) := by omega
                    have cell := allcell N A4 c4 w4 (t4.out) (n + j) hnj (((q7.trans q8).trans q9).trans q10)
                    obtain ⟨a4, rfl, cell⟩ := cell
                    have HSZ := NSZ.out _ (List.getElem_mem hnj)
                    obtain ⟨s, hs0⟩ : ∃ s, s = N[n + j] := ⟨_, rfl⟩
                    rw [← hs0] at cell HSZ hmem
                    have LK := im.get hmem (by unfold maxLen; omega)
                    have IM := Lib.hid im
                    have hnj3 : ((n : Int) + (j : Int)).toNat = n + j := by omega
                    clear hs0 im hmem hnj
                    go_wp2
                    go_roundw
                    case rel => exact ⟨j + 1, hjk, by go_num, IM.out, q10⟩
                    case measure => simp [intOf]; omega
                  · obtain rfl : j = ks.length + gs.length := by omega
                    have hjk3 : ¬ ((ks.length + gs.length : Nat) : Int) < (ks.length : Int) + (gs.length : Int) := by omega
                    have bpm := (n8.on q10).cell 2
                    have bpl := (n8.on q10).cell 3
                    simp only [List.getElem?_toArray, List.getElem?_cons_zero, List.getElem?_cons_succ] at bpm bpl
                    have qq := ((q7.trans q8).trans q9).trans q10
                    clear im
                    go_wp2_with fail
                    refine (awake_any7 _).mono ?_
                    rintro e w12 ⟨rfl, q12⟩
                    go_wp2
                    go_ret
                    exact ⟨rfl, ((qA.trans q4).trans qq).trans q12⟩
      | true =>
        have hsum := PF.sum
        simp only at hsum
        subst hsum
        have hle := PF.le
        have hmo := PF.more
        have hfull := PF.full
        have hlast := PF.last
        have hlk := PF.lkey
        simp only at hle hmo hfull hlast hlk
        have HAS := Lib.hid PF.has
        have SZK := Lib.hid PF.szk
        have SZG := Lib.hid PF.szg
        simp only at HAS SZK SZG
        clear PF
        have hfl : ks.length + gs.length = m := hfull (by trivial)
        have hlt : n + (ks.length + gs.length) < N.length := of_decide_eq_true hmo.symm
        have hkp : 0 < ks.length + gs.length := by omega
        obtain ⟨hl1, hl2, hl3⟩ := hlast hkp
        have hlk := hlk hkp
        obtain ⟨jj, hjj⟩ : ∃ jj, jj + 1 = n + (ks.length + gs.length) := ⟨n + (ks.length + gs.length) - 1, by omega⟩
        have HL1 := Lib.hid hl1
        have HL3 : Hid (∃ h : jj < N.length, la = N[jj]) := Lib.hid (by
          have e : n + (ks.length + gs.length) - 1 = jj := by omega
          simp only [e] at hl3
          exact ⟨by omega, hl3⟩)
        have HLZ := (hasO_size hlk).2
        have HLK := Lib.hid hlk
        have v1 : ((ks.length : Int) + (gs.length : Int) != (m : Int)) = false := by simp; omega
        have v2 : (n : Int) + ((ks.length : Int) + (gs.length : Int)) < (N.length : Int) := by omega
        have HJJ := Lib.hid hjj
        clear hl1 hl2 hl3 hlk hjj hfl
        have v3 : ¬ (N.length : Int) < (n : Int) + ((ks.length : Int) + (gs.length : Int)) := by omega
        have hks : ks.length ≤ 60 := by omega
        have hgs : gs.length ≤ 60 := by omega
        clear hmo hfull hlast hlt
        unfold KeysR at KC
        simp only at KC
        have bKx := bA.on (q4.trans q7)
        have x0 := bKx.cell 0
        have x1 := bKx.cell 1
        have x2 := bKx.cell 2
        simp only [List.getElem?_toArray, List.getElem?_cons_zero, List.getElem?_cons_succ] at x0 x1 x2
        go_wp2_with fail
        refine (KC.out _ _ (t1.out.on (q4.trans q7))).mono ?_
        rintro e w8 ⟨A8, c8, B8, d8, r8, rfl, e8, g8, q8⟩
        have T8 := Lib.hid e8
        have G8 := Lib.hid g8
        clear e8 g8 x0 x1 x2 bKx r8
        have n8 := Bx.new w8 29 #[.slice A8 ks.length c8, .slice B8 gs.length d8, .bool true, .string la]
        have q9 := (Q.refl w8).alloc (.cells #[.slice A8 ks.length c8, .slice B8 gs.length d8, .bool true, .string la] 29)
        have p0 := n8.cell 0
        have p1 := n8.cell 1
        have p2 := n8.cell 2
        have p3 := n8.cell 3
        simp only [List.getElem?_toArray, List.getElem?_cons_zero, List.getElem?_cons_succ] at p0 p1 p2 p3
        have IM0 := InM.made (w8.alloc (.cells #[.slice A8 ks.length c8, .slice B8 gs.length d8, .bool true, .string la] 29))
        simp only [World.size_alloc] at IM0
        have QM := (Q.refl (w8.alloc (.cells #[.slice A8 ks.length c8, .slice B8 gs.length d8, .bool true, .string la] 29))).alloc (.map #[] 0)
        have HS9 := Lib.hid (World.size_alloc w8 (.cells #[.slice A8 ks.length c8, .slice B8 gs.length d8, .bool true, .string la] 29))
        have IM9 := Lib.hid IM0
        have QM9 := Lib.hid QM
        clear IM0 QM
        obtain ⟨w9, hw9⟩ : ∃ w9, w9 = w8.alloc (.cells #[.slice A8 ks.length c8, .slice B8 gs.length d8, .bool true, .string la] 29) := ⟨_, rfl⟩
        rw [← hw9] at n8 q9 HS9 IM9 QM9
        have HW9 := Lib.hid hw9
        clear hw9
        go_wp2_with fail
        rw [← HW9.out]
        go_loopw [15] (fun J wr2 => ∃ j : Nat, j ≤ ks.length ∧ J = .int .i64 j ∧ InM (w8.heap.size + 1) j (ks.take j) wr2 ∧ Q w9 wr2) (fun J _ => ks.length - (intOf J).toNat)
        case atStart => exact ⟨0, Nat.zero_le _, rfl, IM9.out, QM9.out⟩
        case round =>
          obtain ⟨j, hj, rfl, im, q10⟩ := hrel
          have bp0 := (n8.on q10).cell 0
          simp only [List.getElem?_toArray, List.getElem?_cons_zero, List.getElem?_cons_succ] at bp0
          by_cases hjk : j < ks.length
          · have hjk2 : (j : Int) < (ks.length : Int) := by omega
            obtain ⟨A', k', eA, fA⟩ := T8.out.on (q9.trans q10)
            injection eA with eA1 eA2 eA3
            subst eA1 eA3
            clear eA2
            obtain ⟨a8, rfl, -, cell⟩ := fA j hjk
            have HSZ := SZK.out _ (List.getElem_mem hjk)
            have HTK := Lib.hid (show ks.take j ++ [ks[j]] = ks.take (j + 1) from (List.take_succ_eq_append_getElem hjk).symm)
            obtain ⟨s, hs0⟩ : ∃ s, s = ks[j] := ⟨_, rfl⟩
            rw [← hs0] at cell HSZ HTK
            have IM := Lib.hid im
            clear hs0 fA im
            go_wp2_with (first | (at_mapUpdate; refine wpList_inM_put IM.out rfl _ _ _ rfl (by omega) s HSZ rfl rfl rfl ?_; intro w11 im11 g11) | fail)
            rw [HTK.out] at im11
            go_roundw
            case rel => exact ⟨j + 1, hjk, by go_num, im11, q10.mapped g11 (by have := HS9.out; omega)⟩
            case measure => simp [intOf]; omega
          · obtain rfl : j = ks.length := by omega
            rw [List.take_length] at im
            have IM := Lib.hid im
            clear im
            go_wp2_with fail
            go_loopw [16] (fun J wr3 => ∃ j : Nat, j ≤ gs.length ∧ J = .int .i64 j ∧ InM (w8.heap.size + 1) (ks.length + j) (ks ++ gs.take j) wr3 ∧ Q w9 wr3) (fun J _ => gs.length - (intOf J).toNat)
            case atStart => exact ⟨0, Nat.zero_le _, rfl, by rw [List.take_zero, List.append_nil]; exact IM.out, q10⟩
            clear bp0 q10 IM
            case round =>
              obtain ⟨j, hj, rfl, im, q10⟩ := hrel
              have bp1 := (n8.on q10).cell 1
              simp only [List.getElem?_toArray, List.getElem?_cons_zero, List.getElem?_cons_succ] at bp1
              by_cases hjk : j < gs.length
              · have hjk2 : (j : Int) < (gs.length : Int) := by omega
                obtain ⟨A', k', eA, fA⟩ := G8.out.on (q9.trans q10)
                injection eA with eA1 eA2 eA3
                subst eA1 eA3
                clear eA2
                obtain ⟨a8, rfl, -, cell⟩ := fA j hjk
                have HSZ := SZG.out _ (List.getElem_mem hjk)
                have HTK := Lib.hid (show ks ++ gs.take j ++ [gs[j]] = ks ++ gs.take (j + 1) by rw [List.append_assoc, List.take_succ_eq_append_getElem hjk])
                obtain ⟨s, hs0⟩ : ∃ s, s = gs[j] := ⟨_, rfl⟩
                rw [← hs0] at cell HSZ HTK
                have IM := Lib.hid im
                clear hs0 fA im
                go_wp2_with (first | (at_mapUpdate; refine wpList_inM_put IM.out rfl _ _ _ rfl (by omega) s HSZ rfl rfl rfl ?_; intro w11 im11 g11) | fail)
                rw [HTK.out] at im11
                go_roundw
                case rel => exact ⟨j + 1, hjk, by go_num, im11, q10.mapped g11 (by have := HS9.out; omega)⟩
                case measure => simp [intOf]; omega
              · obtain rfl : j = gs.length := by omega
                rw [List.take_length] at im
                have IM := Lib.hid im
                clear im
                go_wp2_with fail
                go_loopw [17] (fun J wr4 => ∃ j : Nat, j ≤ ks.length + gs.length ∧ J = .int .i64 j ∧ InM (w8.heap.size + 1) (ks.length + gs.length) (ks ++ gs) wr4 ∧ Q w9 wr4) (fun J _ => ks.length + gs.length - (intOf J).toNat)
                case atStart => exact ⟨0, Nat.zero_le _, rfl, IM.out, q10⟩
                clear bp1 q10 IM
                case round =>
                  obtain ⟨j, hj, rfl, im, q10⟩ := hrel
                  by_cases hjk : j < ks.length + gs.length
                  · have hjk2 : (j : Int) < (ks.length : Int) + (gs.length : Int) := by omega
                    obtain ⟨hnj, hmem⟩ := HAS.out j hjk
                    have hnj2 : (n : Int) + (j : Int) < (N.length : Int) := by omega
                    have cell := allcell N A4 c4 w4 (t4.out) (n + j) hnj (((q7.trans q8).trans q9).trans q10)
                    obtain ⟨a4, rfl, cell⟩ := cell
                    have HSZ := NSZ.out _ (List.getElem_mem hnj)
                    obtain ⟨s, hs0⟩ : ∃ s, s = N[n + j] := ⟨_, rfl⟩
                    rw [← hs0] at cell HSZ hmem
                    have LK := im.get hmem (by unfold maxLen; omega)
                    have IM := Lib.hid im
                    have hnj3 : ((n : Int) + (j : Int)).toNat = n + j := by omega
                    clear hs0 im hmem hnj
                    go_wp2
                    go_roundw
                    case rel => exact ⟨j + 1, hjk, by go_num, IM.out, q10⟩
                    case measure => simp [intOf]; omega
                  · obtain rfl : j = ks.length + gs.length := by omega
                    have hjk3 : ¬ ((ks.length + gs.length : Nat) : Int) < (ks.length : Int) + (gs.length : Int) := by omega
                    have bpm := (n8.on q10).cell 2
                    have bpl := (n8.on q10).cell 3
                    simp only [List.getElem?_toArray, List.getElem?_cons_zero, List.getElem?_cons_succ] at bpm bpl
                    have qq := ((q7.trans q8).trans q9).trans q10
                    clear im
                    obtain ⟨hj3, hla⟩ := HL3.out
                    have hj4 := HJJ.out
                    have cell := allcell N A4 c4 w4 (t4.out) jj hj3 qq
                    obtain ⟨a4, rfl, cell⟩ := cell
                    rw [← hla] at cell
                    have KK := Lib.hid fun b => rkey_any la b (by omega)
                    rw [HLK.out] at KK
                    have s1 : (n : Int) + ((ks.length : Int) + (gs.length : Int)) - 1 = (jj : Int) := by omega
                    have s2 : IntKind.i64.wrap (jj : Int) = (jj : Int) := IntWalk.i64_in _ (by omega)
                    have s3 : (jj : Int) < (N.length : Int) := by omega
                    clear hla hj4
                    go_upto_region 34 with fail
                    refine wp_region_quiet_lit (by kernel_rfl) (by kernel_rfl) ?_
                    iterate 14 quiet_step ((first | exact quiet_left (KK.out _)))
                    refine wpQuiet_nil ?_
                    rintro _ ⟨nq, rfl⟩
                    have qf := qq.drewN nq
                    go_wp2
                    go_roundw
                    case rel => exact ⟨i + 1, n + (ks.length + gs.length), by omega, by omega, by go_num, by go_num, by rw [HL1.out], qf⟩
                    case measure => simp [intOf]; omega
  · simp only [List.length_nil]
    go_wp2_with fail
    refine (awake_any7 _).mono ?_
    rintro e w9 ⟨rfl, q9⟩
    have q := (qA.trans q4).trans q9
    clear t1 t4 CU TC
    go_wp2
    go_ret
    exact ⟨rfl, q⟩

set_option maxRecDepth 100000 in
theorem lifted (os : Os) (started : os.Started) (H : Type) (enc : TypeId × Value → H) :
    ReturnsInHanded {} Try.checked os 5 .any (Rows.pagerWholeSpec.pre6 enc Try.prog Try.f5 Rows.pagerWholeRow.domain false) (Rows.pagerWholeSpec.post enc Try.prog Try.f5 false true false false) := by
  refine returnsInHanded_of_change (C := Try.checked) own started (by kernel_rfl) Try.func5
    (ChangeSpec.witness6 (enc := enc) (C := Try.checked) false ⟨#[], #[.agg #[.slice none 0 0, .string ByteArray.empty, .string ByteArray.empty, .string ByteArray.empty, .int .u64 0, .int .i64 0], .slice none 0 0], []⟩ 8 (by kernel_rfl) (by kernel_rfl) (by kernel_rfl) (by kernel_rfl)) ?_
  intro W base args ds gs before hval0 hW hcnd _
  have hval : ∀ (j : Nat) t v, Try.f5.params[j]? = some t → args[j]? = some v → Value.okWide Try.prog W .any base t v := hval0
  have hW' := hW
  obtain ⟨p, q, hA0, hV, rfl, hfz, hnd⟩ := hW
  have hA : DataW.TrodAll enc Try.prog W 0 (fun _ => true) true Try.f5.params.toList args.toList ds p := hA0
  rw [Try.params5] at hA hval
  obtain ⟨v0, vs0, d0, ds0, p0, q0, hargs, rfl, rfl, h0, r0⟩ := trodAll_cons hA
  obtain ⟨v1, vs1, d1, ds1, p1, q1, rfl, rfl, rfl, h1, r1⟩ := trodAll_cons r0
  obtain ⟨rfl, rfl, rfl⟩ := trodAll_nil r1
  obtain rfl : args = #[v0, v1] := by cases args; simp_all
  obtain ⟨rfl, rfl⟩ := trodVars_none hV
  clear hA0 hval0
  simp only [List.append_nil] at hW'
  have hlt : ∀ x ∈ p0 ++ p1, x.block < W.heap.size := fun x hx => by simpa using hW'.lt x (by simpa using hx)
  obtain ⟨u0, l0, p0q, d0q, k0q, n0q, m0q, rfl, t0, z0, sp0, sd0, sk0, si0, sm0, sn0⟩ := open_ask (hval 0 25 v0 rfl rfl) h0
  obtain ⟨l1, n1, z1⟩ := open_byts (hval 1 47 v1 rfl rfl) h1
  refine (walk u0 l0 p0q d0q k0q n0q m0q l1 v1 W t0 z0 sp0 sd0 sk0 si0 sm0 sn0 n1 z1).mono fun e W' ⟨he, bel⟩ => ?_
  subst he
  refine ⟨_, rfl, _, _, _, [], _, [], hW', trodAll_mk1 (shut_bool Try.underlying4 _), (trodAll_cons_mk (Below.trod laid (by kernel_rfl) (of_decide_eq_true (by kernel_rfl)) h0 bel (fun x hx => hlt x (by simp [hx]))) (trodAll_cons_mk (Below.trod laid (by kernel_rfl) (of_decide_eq_true (by kernel_rfl)) h1 bel (fun x hx => hlt x (by simp [hx]))) trodAll_mk0)), rfl, Below.frame bel _, fun h => by cases h⟩

theorem over : Rows.pagerWholeRow.holds Try.pinned (OpenSpec.ofChange Rows.pagerWholeSpec) :=
  OpenClaim.holds_of_wide 5 Try.f5 rfl rfl rfl rfl rfl rfl rfl ⟨rfl, rfl, rfl, rfl, rfl⟩ rfl rfl rfl rfl rfl (by kernel_rfl) Try.func5 (by kernel_rfl)
    (of_decide_eq_true (by kernel_rfl)) (by unfold Func.isWrapper; first | (rw [if_pos (by decide +kernel)]; kernel_rfl) | (rw [if_neg (by decide +kernel)]; exact ⟨rfl, rfl⟩))
    (fun os started H enc _ => lifted os started H enc)

theorem proved : Rows.PagerWholeSaid := over
#print axioms proved
end Go.Proofs.Ytipipjpdlblifaa.pagerWhole
