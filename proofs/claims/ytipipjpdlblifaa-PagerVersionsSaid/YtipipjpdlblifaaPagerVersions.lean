/-
  Proved: whatever index and sizes PagerVersions is called with, it returns true and leaves what it was given as it was. No condition.
-/
import Derived.Test.YtipipjpdlblifaaGVBig
namespace Go.Proofs.Ytipipjpdlblifaa.pagerVersions
open Go.ChangeShapes Go.WideShapes Go.ChangeAt Go.RowKit
open Go.ChangeMaps (open_string shut_string)
set_option linter.unusedVariables false
set_option linter.unusedSimpArgs false

attribute [local irreducible] kyN idN
set_option maxHeartbeats 8000000 in
set_option maxRecDepth 100000 in
theorem walk (l : List Ent) (v : Value) (sz : List Nat) (zv : Value) (w : World) (t0 : Ents w w.heap.size v l) (z0 : l.length ≤ maxLen) (bz : Byts w w.heap.size zv sz) (zz : sz.length ≤ maxLen) :
    Calls Try.prog 6 #[v, zv] w fun e w' => e = .returned (.bool true) ∧ Q w w' := by
  obtain ⟨L, hL, hlen, hfew, htiny, FW⟩ := few_allE l v w z0 t0
  have hs : Small L := tiny_small (by omega) htiny
  have hL1 := hs.1
  obtain ⟨R, hR⟩ := chkI_ex L
  obtain ⟨P, hP, KC⟩ := rows_whole L ⟨#[]⟩ ⟨#[]⟩ 0 1000 R hR hs (by decide) (by decide)
  have h60 : hasO 0 60 ko ⟨#[]⟩ = true := by decide +kernel
  have hp0 : pgO ⟨#[]⟩ 1000 = true := by decide +kernel
  rw [h60, hp0, Bool.and_true, Bool.and_true] at hP
  obtain ⟨PR, PM, PE⟩ := P
  unfold RowsC at KC
  simp only at KC
  have MC := Lib.hid fun b u (hu : Ents b b.heap.size u L) => rmany_any L u b hs hu
  have BZ := Lib.hid bz
  obtain ⟨SA, sc, rfl, -, -⟩ := bz
  have hmm := @run_makeMap Try.prog
  obtain ⟨A0, c0, rfl⟩ := t0.form
  obtain ⟨N0, hN0⟩ : ∃ n, l.length = n := ⟨_, rfl⟩
  rw [hN0] at FW ⊢
  unfold maxLen at zz
  have HP := Lib.hid hP
  clear h60 hp0 t0 z0 hL hfew hN0 hP
  go_enter Try.func6, Try.ntmps6
  go_wp2_with fail
  refine (FW.out _ (Q.refl _)).mono ?_
  rintro e w1 ⟨u1, rfl, e1, q1⟩
  have t1 := Lib.hid e1
  obtain ⟨A1, c1, rfl⟩ := e1.form
  clear e1 FW
  go_wp2_with fail
  refine (KC.out _ _ t1.out).mono ?_
  rintro e w2 ⟨A2, c2, rfl, e2, q2⟩
  have t2 := Lib.hid e2
  clear e2
  have q12 := q1.trans q2
  rcases HP.out with ⟨rfl, hI, -, -, hP⟩ | ⟨rfl, hP⟩
  · have hP2 : rowsPg ⟨#[]⟩ 0 (1000 : Int).toNat (rowsO ⟨#[]⟩ L) = ((rowsO ⟨#[]⟩ L).take 1000, decide (1000 < (rowsO ⟨#[]⟩ L).length), 0) := rowsPg_first rfl
    rw [hP2] at hP
    simp only [Prod.mk.injEq] at hP
    obtain ⟨rfl, hPM, rfl⟩ := hP
    have hTl := rows_len (p := ⟨#[]⟩) (okI_few hI)
    have hmn : manyE L = (rowsO ⟨#[]⟩ L).length := (many_rows L).symm
    rw [hmn] at MC
    have hL60 := hI.1
    obtain ⟨T, hT⟩ : ∃ T, T = rowsO ⟨#[]⟩ L := ⟨_, rfl⟩
    rw [← hT] at hPM hTl t2 MC ⊢
    clear hmn hP2 HP KC
    by_cases h1000 : 1000 < T.length
    · have hpt : PM = true := by rw [hPM]; simp [h1000]
      subst hpt
      have hgt : (1000 : Int) < (T.length : Int) := by omega
      clear hPM h1000 hT
      go_wp2_with fail
      refine (MC.out _ _ (t1.out.on q2)).mono ?_
      rintro e w3 ⟨rfl, q3⟩
      go_wp2_with fail
      refine (awake_any7 _).mono ?_
      rintro e w99 ⟨rfl, q99⟩
      go_wp2
      go_ret
      exact ⟨rfl, (q12.trans q3).trans q99⟩
    · have hpf : PM = false := by rw [hPM]; simp [h1000]
      subst hpf
      rw [List.take_of_length_le (by omega)] at t2 ⊢
      have hT1000 : T.length ≤ 1000 := by omega
      clear hPM h1000
      have hkeys := latK_all (l := L) (fun e he => ((okI_iff.1 hI).2.2 e he).2.1)
      rw [← hT] at hkeys
      have hnd : (latK T).Nodup := by
        rw [hkeys, List.nodup_iff_pairwise_ne, List.pairwise_map]
        exact (okI_iff.1 hI).2.1.imp fun {a b} h e => by rw [e] at h; rw [ltB_irrefl] at h; simp at h
      have hlatl : (latK T).length = L.length := by rw [hkeys, List.length_map]
      have HK := Lib.hid fun (r : Rw) (hr : r ∈ T) => rows_key hI (p := ⟨#[]⟩) (r := r) (by rw [← hT]; exact hr)
      have PN := Lib.hid fun n m hn => page_n (n := n) (m := m) hI hT hn
      have RP := Lib.hid fun n m hn hm => rows_page (n := n) (m := m) hI hR hs hT hn hm
      have HTL := Lib.hid hTl
      have HHR := Lib.hid hR
      obtain ⟨N, hN⟩ : ∃ n, T.length = n := ⟨_, rfl⟩
      rw [hN] at t2 MC hT1000 hTl ⊢
      have HN := Lib.hid hN
      have HND := Lib.hid hnd
      have HLL := Lib.hid hlatl
      clear hN hnd hlatl hkeys hT
      go_wp2_with fail
      refine (MC.out _ _ (t1.out.on q2)).mono ?_
      rintro e w3 ⟨rfl, q3⟩
      have im0 := InC.made w3
      have q4 := (Q.refl w3).alloc (.map #[] 0)
      go_wp2_with fail
      go_loopw [9] (fun I wr => ∃ i : Nat, i ≤ N ∧ I = .int .i64 i ∧ InC w3.heap.size i (latK (T.take i)) wr ∧ Q w3 wr) (fun I _ => N - (intOf I).toNat)
      case atStart => exact ⟨0, Nat.zero_le _, rfl, im0, q4⟩
      case round =>
        clear im0 q4
        obtain ⟨i, hil, rfl, im, q⟩ := hrel
        obtain ⟨wo, hwo⟩ : ∃ x, x = wr := ⟨_, rfl⟩
        subst hwo
        by_cases hlt : i < N
        · have hltT : i < T.length := by have := HN.out; omega
          have hilt : (i : Int) < (N : Int) := by omega
          obtain ⟨a, rfl, hab, c0, c1', c2', c3, c4⟩ := pickR t2.out i hltT (q3.trans q)
          have HTK : Hid (latK (T.take (i + 1)) = latK (T.take i) ++ (if T[i].latest then [T[i].key] else [])) := Lib.hid (by rw [List.take_succ_eq_append_getElem hltT, latK_snoc])
          have HNEW : T[i].latest = true → T[i].key ∉ latK (T.take i) := fun hl hm => by
            have h1 : latK T = latK (T.take i) ++ ([T[i].key] ++ latK (T.drop (i + 1))) := by
              have e : T = T.take i ++ T[i] :: T.drop (i + 1) := by rw [← List.drop_eq_getElem_cons hltT, List.take_append_drop]
              have e2 : latK T = latK (T.take i ++ T[i] :: T.drop (i + 1)) := congrArg latK e
              rw [e2, latK, List.filter_append, List.filter_cons_of_pos hl, List.map_append, List.map_cons]; rfl
            have h2 := HND.out
            rw [h1] at h2
            have := (List.nodup_append.1 h2).2.2 _ hm _ (List.mem_append.2 (.inl (List.mem_singleton.2 rfl)))
            exact this rfl
          have hkz := (hasO_size (HK.out _ (List.getElem_mem hltT))).2
          obtain ⟨x, hx⟩ : ∃ x, x = T[i] := ⟨_, rfl⟩
          rw [← hx] at c0 c1' c2' c3 c4 HTK HNEW hkz
          obtain ⟨xk, xi, xl, xm, xs⟩ := x
          simp only at c0 c1' c2' c3 c4 HTK HNEW hkz
          clear hx
          cases xl with
          | true =>
            have hnew := HNEW rfl
            have hlook := im.new hnew (by unfold maxLen; omega)
            have IM := Lib.hid im
            have HW := Lib.hid hnew
            rw [if_pos rfl] at HTK
            clear HNEW hnew im
            go_wp2_with (first | (at_mapUpdate; refine wpList_inC_put IM.out rfl _ _ _ rfl (by omega) xk HW.out (by omega) rfl rfl rfl ?_; intro w11 im11 g11) | fail)
            rw [← HTK.out] at im11
            go_roundw
            case rel => exact ⟨i + 1, by omega, by go_num, im11, q.mapped g11 (Nat.le_refl _)⟩
            case measure => simp [intOf]; omega
          | false =>
            rw [if_neg (by simp), List.append_nil] at HTK
            clear HNEW
            go_wp2_with fail
            go_roundw
            case rel => exact ⟨i + 1, by omega, by go_num, by rw [HTK.out]; exact im.more (by omega), q⟩
            case measure => simp [intOf]; omega
        · have hilt : ¬ (i : Int) < (N : Int) := by omega
          have hiN : T.take i = T := List.take_of_length_le (by have := HN.out; omega)
          rw [hiN] at im
          have hlenM := im.len 3
          rw [HLL.out] at hlenM
          clear hiN im hlt
          go_wp2_with fail
          go_loopw [10, 11, 12, 13] (fun KY ID NN I wr2 => ∃ i n : Nat, (n < N ∨ N = 0 ∧ n = 0) ∧ i ≤ 40 ∧ KY = .string (kyN T n) ∧ ID = .int .u64 (idN T n : Nat) ∧ NN = .int .i64 n ∧ I = .int .i64 i ∧ Q w3 wr2) (fun _ _ _ I _ => 40 - (intOf I).toNat)
          case atStart => exact ⟨0, 0, by omega, by omega, by rw [kyN_zero], by rw [idN_zero]; rfl, rfl, rfl, q⟩
          clear q hlenM
          case round =>
            obtain ⟨i, n, hn, hi, rfl, rfl, rfl, rfl, q6⟩ := hrel
            by_cases hiN : i ≤ N
            · have g1 : (i : Int) ≤ (N : Int) := by omega
              by_cases hi40 : i < 40
              · have g2 : (i : Int) < 40 := by omega
                go_upto_if 87 with fail
                go_cut [14] from 87 to 94 (fun M wx => (∃ m : Nat, 1 ≤ m ∧ m ≤ 5 ∧ M = .int .i64 m) ∧ Q w3 wx)
                case first =>
                  by_cases hiS : i < sz.length
                  · have hiS2 : (i : Int) < (sz.length : Int) := by omega
                    obtain ⟨A', k', eA, -, fA⟩ := BZ.out.on ((q12.trans q3).trans q6)
                    injection eA with eA1 eA2 eA3
                    subst eA1 eA3
                    clear eA2
                    obtain ⟨a5, rfl, -, hs5, cell⟩ := fA i hiS
                    obtain ⟨s, hs0⟩ : ∃ s, s = sz[i] := ⟨_, rfl⟩
                    rw [← hs0] at cell hs5
                    have hmod : Int.tmod (s : Int) 5 = ((s % 5 : Nat) : Int) := (Int.ofNat_tmod s 5).symm
                    clear hs0 fA
                    go_wp2_with fail
                    go_meet
                    exact ⟨⟨1 + s % 5, by omega, by omega, by go_num⟩, q6⟩
                  · have hiS2 : ¬ (i : Int) < (sz.length : Int) := by omega
                    go_wp2_with fail
                    go_meet
                    exact ⟨⟨1, by omega, by omega, rfl⟩, q6⟩
                case rest =>
                obtain ⟨⟨m, m1, m5, rfl⟩, q7⟩ := hcut
                clear q6
                obtain ⟨K, k1, k2, k3, k4, KC5⟩ := RP.out n m (by have := HN.out; omega) (by omega)
                rw [HN.out] at k1 k3 k4 KC5
                generalize kyN T n = ky at KC5 ⊢
                generalize idN T n = ide at KC5 ⊢
                have SM := Lib.hid fun (b : World) (u v : Value) (h1 : RowsV b b.heap.size u ((T.drop n).take K)) (h2 : RowsV b b.heap.size v ((T.drop n).take K)) => sameR_yes ((T.drop n).take K) u v b (by have := HN.out; rw [List.length_take]; omega) h1 h2
                have hlK : ((T.drop n).take K).length = K := by have := HN.out; rw [List.length_take, List.length_drop]; omega
                have HLK := Lib.hid hlK
                clear hlK
                by_cases hnm : n + m < N
                · have hK : K = m := k3 hnm
                  subst hK
                  rw [decide_eq_true hnm] at KC5
                  clear k3 k4
                  obtain ⟨a2, rfl, -⟩ := pickR t2.out n (by have := HN.out; omega) (Q.refl _)
                  have hcap : N ≤ c2 := by
                    obtain ⟨_, _, e, e0, -⟩ := t2.out
                    injection e with e1 e2 e3
                    omega
                  have CT := Lib.hid (t2.out.cut (n := n) (K := K) (by have := HN.out; omega))
                  have s1 : (n : Int) + (K : Int) < (N : Int) := by omega
                  have s2 : ¬ (N : Int) < (n : Int) + (K : Int) := by omega
                  have s3 : (n : Int) ≤ (n : Int) + (K : Int) := by omega
                  have s4 : (n : Int) + (K : Int) ≤ (c2 : Int) := by omega
                  have s5 : ((K : Int) == 0) = false := by simp; omega
                  have s6 : c2 ≠ n := by omega
                  obtain ⟨kk, hkk⟩ : ∃ kk, kk + 1 = K := ⟨K - 1, by omega⟩
                  have s7 : (K : Int) - 1 = (kk : Int) := by omega
                  have s8 : (kk : Int) < (K : Int) := by omega
                  have HKK := Lib.hid hkk
                  clear hkk
                  go_wp2_with fail
                  refine (KC5.out _ _ (t1.out.on ((q2.trans q3).trans q7))).mono ?_
                  rintro e w5 ⟨A5, c5, rfl, e5, q5⟩
                  have t5 := Lib.hid e5
                  clear e5
                  go_wp2_with fail
                  refine (SM.out _ _ _ t5.out (CT.out.on ((q3.trans q7).trans q5))).mono ?_
                  rintro e w6 ⟨rfl, q8⟩
                  obtain ⟨a5, rfl, -, c0, c1', -, -, -⟩ := pickR t5.out kk (by have := HKK.out; have := HLK.out; omega) q8
                  have HX : Hid (kyN T (n + K) = (((T.drop n).take K)[kk]'(by have := HKK.out; have := HLK.out; omega)).key ∧ idN T (n + K) = (((T.drop n).take K)[kk]'(by have := HKK.out; have := HLK.out; omega)).id) := Lib.hid (by
                    have h1 := HKK.out
                    have h2 := HN.out
                    have := kyN_succ (T := T) (n := n + kk) (by omega)
                    rw [show n + kk + 1 = n + K by omega] at this
                    rw [List.getElem_take, List.getElem_drop]
                    exact this)
                  obtain ⟨x, hx⟩ : ∃ x, x = ((T.drop n).take K)[kk]'(by have := HKK.out; have := HLK.out; omega) := ⟨_, rfl⟩
                  rw [← hx] at c0 c1' HX
                  obtain ⟨xk, xi, xl, xm, xs⟩ := x
                  simp only at c0 c1' HX
                  clear hx
                  go_wp2_with fail
                  go_region
                  go_wp2
                  go_roundw
                  case rel => exact ⟨i + 1, n + K, .inl (by omega), by omega, by rw [HX.out.1], by rw [HX.out.2], by go_num, by go_num, ((q7.trans q5).trans q8).drew⟩
                  case measure => simp [intOf]; omega
                · have hK : n + K = N := k4 hnm
                  rw [decide_eq_false hnm] at KC5
                  clear k3 k4
                  have s1 : ¬ (n : Int) + (K : Int) < (N : Int) := by omega
                  have s2 : ¬ (N : Int) < (n : Int) + (K : Int) := by omega
                  have s3 : (n : Int) ≤ (n : Int) + (K : Int) := by omega
                  have s5 : ((n : Int) + (K : Int) == (N : Int)) = true := by simp; omega
                  rcases hn with hn | ⟨hN0, hn0⟩
                  · obtain ⟨a2, rfl, -⟩ := pickR t2.out n (by have := HN.out; omega) (Q.refl _)
                    have hcap : N ≤ c2 := by
                      obtain ⟨_, _, e, e0, -⟩ := t2.out
                      injection e with e1 e2 e3
                      omega
                    have CT := Lib.hid (t2.out.cut (n := n) (K := K) (by have := HN.out; omega))
                    have s4 : (n : Int) + (K : Int) ≤ (c2 : Int) := by omega
                    have s6 : c2 ≠ n := by omega
                    have HK := Lib.hid hK
                    clear hK
                    go_wp2_with fail
                    refine (KC5.out _ _ (t1.out.on ((q2.trans q3).trans q7))).mono ?_
                    rintro e w5 ⟨A5, c5, rfl, e5, q5⟩
                    have t5 := Lib.hid e5
                    clear e5
                    go_wp2_with fail
                    refine (SM.out _ _ _ t5.out (CT.out.on ((q3.trans q7).trans q5))).mono ?_
                    rintro e w6 ⟨rfl, q8⟩
                    go_wp2_with fail
                    refine (awake_any7 _).mono ?_
                    rintro e w99 ⟨rfl, q99⟩
                    go_wp2
                    go_ret
                    exact ⟨rfl, ((((q12.trans q3).trans q7).trans q5).trans q8).trans q99⟩
                  · obtain rfl : K = 0 := by omega
                    subst hn0
                    subst hN0
                    have hTN : T = [] := List.length_eq_zero_iff.1 HN.out
                    subst hTN
                    (try simp only [List.drop_nil, List.take_nil] at SM KC5)
                    have z1 : (0 : Int) ≤ (c2 : Int) := by omega
                    clear s1 s2 s3 s5 hK
                    rcases A2 with _ | a2
                    · by_cases hc2 : c2 = 0
                      · subst hc2
                        go_wp2_with fail
                        refine (KC5.out _ _ (t1.out.on ((q2.trans q3).trans q7))).mono ?_
                        rintro e w5 ⟨A5, c5, rfl, e5, q5⟩
                        have t5 := Lib.hid e5
                        clear e5
                        go_wp2_with fail
                        refine (SM.out _ _ _ t5.out (RowsV.none _ _ _ _)).mono ?_
                        rintro e w6 ⟨rfl, q8⟩
                        go_wp2_with fail
                        refine (awake_any7 _).mono ?_
                        rintro e w99 ⟨rfl, q99⟩
                        go_wp2
                        go_ret
                        exact ⟨rfl, (((((q12.trans q3).trans q7).trans q5).trans q8)).trans q99⟩
                      · go_wp2_with fail
                        refine (KC5.out _ _ (t1.out.on ((q2.trans q3).trans q7))).mono ?_
                        rintro e w5 ⟨A5, c5, rfl, e5, q5⟩
                        have t5 := Lib.hid e5
                        clear e5
                        go_wp2_with fail
                        refine (SM.out _ _ _ t5.out (RowsV.none _ _ _ _)).mono ?_
                        rintro e w6 ⟨rfl, q8⟩
                        go_wp2_with fail
                        refine (awake_any7 _).mono ?_
                        rintro e w99 ⟨rfl, q99⟩
                        go_wp2
                        go_ret
                        exact ⟨rfl, (((((q12.trans q3).trans q7).trans q5).trans q8)).trans q99⟩
                    · by_cases hc2 : c2 = 0
                      · subst hc2
                        go_wp2_with fail
                        refine (KC5.out _ _ (t1.out.on ((q2.trans q3).trans q7))).mono ?_
                        rintro e w5 ⟨A5, c5, rfl, e5, q5⟩
                        have t5 := Lib.hid e5
                        clear e5
                        go_wp2_with fail
                        refine (SM.out _ _ _ t5.out (RowsV.none _ _ _ _)).mono ?_
                        rintro e w6 ⟨rfl, q8⟩
                        go_wp2_with fail
                        refine (awake_any7 _).mono ?_
                        rintro e w99 ⟨rfl, q99⟩
                        go_wp2
                        go_ret
                        exact ⟨rfl, (((((q12.trans q3).trans q7).trans q5).trans q8)).trans q99⟩
                      · go_wp2_with fail
                        refine (KC5.out _ _ (t1.out.on ((q2.trans q3).trans q7))).mono ?_
                        rintro e w5 ⟨A5, c5, rfl, e5, q5⟩
                        have t5 := Lib.hid e5
                        clear e5
                        go_wp2_with fail
                        refine (SM.out _ _ _ t5.out (RowsV.none _ _ _ _)).mono ?_
                        rintro e w6 ⟨rfl, q8⟩
                        go_wp2_with fail
                        refine (awake_any7 _).mono ?_
                        rintro e w99 ⟨rfl, q99⟩
                        go_wp2
                        go_ret
                        exact ⟨rfl, (((((q12.trans q3).trans q7).trans q5).trans q8)).trans q99⟩
              · have g2 : ¬ (i : Int) < 40 := by omega
                go_wp2_with fail
                refine (awake_any7 _).mono ?_
                rintro e w99 ⟨rfl, q99⟩
                go_wp2
                go_ret
                exact ⟨rfl, ((q12.trans q3).trans q6).trans q99⟩
            · have g1 : ¬ (i : Int) ≤ (N : Int) := by omega
              go_wp2_with fail
              refine (awake_any7 _).mono ?_
              rintro e w99 ⟨rfl, q99⟩
              go_wp2
              go_ret
              exact ⟨rfl, ((q12.trans q3).trans q6).trans q99⟩
  · simp only [Prod.mk.injEq] at hP
    obtain ⟨rfl, rfl, rfl⟩ := hP
    simp only [List.length_nil]
    clear HP
    go_wp2_with fail
    refine (awake_any7 _).mono ?_
    rintro e w99 ⟨rfl, q99⟩
    go_wp2
    go_ret
    exact ⟨rfl, q12.trans q99⟩

set_option maxRecDepth 100000 in
theorem lifted (os : Os) (started : os.Started) (H : Type) (enc : TypeId × Value → H) :
    ReturnsInHanded {} Try.checked os 6 .any (Rows.pagerVersionsSpec.pre6 enc Try.prog Try.f6 Rows.pagerVersionsRow.domain false) (Rows.pagerVersionsSpec.post enc Try.prog Try.f6 false true false false) := by
  refine returnsInHanded_of_change (C := Try.checked) own started (by kernel_rfl) Try.func6
    (ChangeSpec.witness6 (enc := enc) (C := Try.checked) false ⟨#[], #[.slice none 0 0, .slice none 0 0], []⟩ 8 (by kernel_rfl) (by kernel_rfl) (by kernel_rfl) (by kernel_rfl)) ?_
  intro W base args ds gs before hval0 hW hcnd _
  have hval : ∀ (j : Nat) t v, Try.f6.params[j]? = some t → args[j]? = some v → Value.okWide Try.prog W .any base t v := hval0
  have hW' := hW
  obtain ⟨p, q, hA0, hV, rfl, hfz, hnd⟩ := hW
  have hA : DataW.TrodAll enc Try.prog W 0 (fun _ => true) true Try.f6.params.toList args.toList ds p := hA0
  rw [Try.params6] at hA hval
  obtain ⟨v0, vs0, d0, ds0, p0, q0, hargs, rfl, rfl, h0, r0⟩ := trodAll_cons hA
  obtain ⟨v1, vs1, d1, ds1, p1, q1, rfl, rfl, rfl, h1, r1⟩ := trodAll_cons r0
  obtain ⟨rfl, rfl, rfl⟩ := trodAll_nil r1
  obtain rfl : args = #[v0, v1] := by cases args; simp_all
  obtain ⟨rfl, rfl⟩ := trodVars_none hV
  clear hA0 hval0
  simp only [List.append_nil] at hW'
  have hlt : ∀ x ∈ p0 ++ p1, x.block < W.heap.size := fun x hx => by simpa using hW'.lt x (by simpa using hx)
  obtain ⟨l0, t0, z0⟩ := open_ents (hval 0 22 v0 rfl rfl) h0
  obtain ⟨l1, n1, z1⟩ := open_byts (hval 1 47 v1 rfl rfl) h1
  refine (walk l0 v0 l1 v1 W t0 z0 n1 z1).mono fun e W' ⟨he, bel⟩ => ?_
  subst he
  refine ⟨_, rfl, _, _, _, [], _, [], hW', trodAll_mk1 (shut_bool Try.underlying4 _), (trodAll_cons_mk (Below.trod laid (by kernel_rfl) (of_decide_eq_true (by kernel_rfl)) h0 bel (fun x hx => hlt x (by simp [hx]))) (trodAll_cons_mk (Below.trod laid (by kernel_rfl) (of_decide_eq_true (by kernel_rfl)) h1 bel (fun x hx => hlt x (by simp [hx]))) trodAll_mk0)), rfl, Below.frame bel _, fun h => by cases h⟩

theorem over : Rows.pagerVersionsRow.holds Try.pinned (OpenSpec.ofChange Rows.pagerVersionsSpec) :=
  OpenClaim.holds_of_wide 6 Try.f6 rfl rfl rfl rfl rfl rfl rfl ⟨rfl, rfl, rfl, rfl, rfl⟩ rfl rfl rfl rfl rfl (by kernel_rfl) Try.func6 (by kernel_rfl)
    (of_decide_eq_true (by kernel_rfl)) (by unfold Func.isWrapper; first | (rw [if_pos (by decide +kernel)]; kernel_rfl) | (rw [if_neg (by decide +kernel)]; exact ⟨rfl, rfl⟩))
    (fun os started H enc _ => lifted os started H enc)

theorem proved : Rows.PagerVersionsSaid := over
#print axioms proved
end Go.Proofs.Ytipipjpdlblifaa.pagerVersions
