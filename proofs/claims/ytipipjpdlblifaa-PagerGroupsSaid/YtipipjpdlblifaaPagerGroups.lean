/-
  Proved: whatever index, prefix and delimiter PagerGroups is called with, it returns true and leaves what it was given as it was. No condition.
-/
import Derived.Test.YtipipjpdlblifaaGGroups
namespace Go.Proofs.Ytipipjpdlblifaa.pagerGroups
open Go.ChangeShapes Go.WideShapes Go.ChangeAt Go.RowKit
open Go.ChangeMaps (open_string shut_string)
set_option linter.unusedVariables false
set_option linter.unusedSimpArgs false

set_option maxHeartbeats 8000000 in
set_option maxRecDepth 100000 in
theorem walk (l : List Ent) (v : Value) (prefix0 delim0 : ByteArray) (w : World) (t0 : Ents w w.heap.size v l) (z0 : l.length ≤ maxLen) (wk : prefix0.size ≤ maxLen) (wd : delim0.size ≤ maxLen) :
    Calls Try.prog 8 #[v, .string prefix0, .string delim0] w fun e w' => e = .returned (.bool true) ∧ Q w w' := by
  obtain ⟨L, hL, hlen, hfew, htiny, FW⟩ := few_allE l v w z0 t0
  obtain ⟨k, hk, hks, FK⟩ := few_key prefix0 wk
  obtain ⟨d, hd, hds, FD⟩ := few_key delim0 wd
  have hs := tiny_small (by omega) htiny
  obtain ⟨R, hR⟩ := chkI_ex L
  obtain ⟨N, kn, hN, TC⟩ := things_whole L k d R hR hs (by omega) (by omega)
  have hkl : ∀ e ∈ L, e.key.size ≤ 1000 := fun e he => (hs.2 e he).1
  have hL1 := hs.1
  clear hL hk hd hfew htiny t0 hR
  rcases hN with ⟨h, hI, hN, rfl⟩ | ⟨h, rfl, rfl⟩
  · simp only [Bool.and_eq_true] at h
    obtain ⟨⟨-, hp⟩, hdd⟩ := h
    obtain ⟨T, hT⟩ : ∃ T, T = thgs k d L := ⟨_, rfl⟩
    have GF : ∀ i (hi : i < T.length), underO T[i].1 k = true ∧ 0 < T[i].1.size ∧ T[i].1.size ≤ 60 ∧ (∀ j (h : j < i), ltB (T[j]'(by omega)).1 T[i].1 = true) ∧ L.any (fndB T[i].1 d) = true ∧
        Hid (∀ b v, Ents b b.heap.size v L → Calls Try.prog 12 #[v, .string T[i].1, .string d] b fun e w' => ∃ A c n, e = .returned (.tuple #[.slice A (n + 1) c, .int .i64 0]) ∧ n ≤ 1000 ∧ Q b w') := by
      subst hT
      exact fun i hi => grp_facts hI hs hp hdd hi
    have HGF := Lib.hid GF
    have hTl : T.length ≤ 60 := by rw [hT]; have := (thF_all (okI_iff.1 hI).2.1 (fun e he => ((okI_iff.1 hI).2.2 e he).1) hp hdd).len; have := hI.1; omega
    rw [← hT] at hN
    subst hN
    have HKL := Lib.hid hkl
    clear GF hT hI hp hdd hkl hs
    rw [List.length_map] at TC
    go_enter Try.func8, Try.ntmps8
    go_wp2_with fail
    refine (FW.out _ (Q.refl _)).mono ?_
    rintro e w1 ⟨v1, rfl, e1, q1⟩
    have t1 := Lib.hid e1
    clear e1
    go_wp2_with fail
    refine (FK.out _).mono ?_
    rintro e w2 ⟨rfl, q2⟩
    go_wp2_with fail
    refine (FD.out _).mono ?_
    rintro e w3 ⟨rfl, q3⟩
    have q13 := q2.trans q3
    go_wp2_with fail
    refine (TC.out _ _ (t1.out.on q13)).mono ?_
    rintro e w4 ⟨A4, c4, rfl, e4, q4⟩
    have t4 := Lib.hid e4
    clear e4
    have q14 := q13.trans q4
    obtain ⟨A1, c1, rfl⟩ := t1.out.form
    clear FW FK FD TC q2 q3
    go_wp2_with fail
    go_loopw [9] (fun I wr => ∃ i : Nat, i ≤ T.length ∧ I = .int .i64 i ∧ Q w4 wr) (fun I _ => T.length - (intOf I).toNat)
    case atStart => exact ⟨0, Nat.zero_le _, rfl, Q.refl _⟩
    case round =>
      obtain ⟨i, hil, rfl, q6⟩ := hrel
      by_cases hlt : i < T.length
      · obtain ⟨g1, g2, g3, g4, g5, BL⟩ := HGF.out i hlt
        obtain ⟨A4', k4, e4, f4⟩ := t4.out
        injection e4 with e41 e42 e43
        subst e41 e43
        clear e42
        obtain ⟨a, rfl, ha, hcell⟩ := f4 i (by rw [List.length_map]; exact hlt)
        rw [List.getElem_map] at hcell
        have c0 := (q6.cell (p := a.add i) (by rw [add_block]; exact ha)).trans hcell
        have hilt : (i : Int) < (T.length : Int) := by omega
        -- the one ahead
        have hprev : (i = 0) ∨ ∃ j : Nat, i = j + 1 ∧ ∃ y, wr.cell? (a.add j) = some (.string y) ∧ ltB y T[i].1 = true := by
          by_cases hi0 : i = 0
          · exact .inl hi0
          · right
            refine ⟨i - 1, by omega, (T[i - 1]'(by omega)).1, ?_, g4 (i - 1) (by omega)⟩
            obtain ⟨a', ea, ha', hc'⟩ := f4 (i - 1) (by rw [List.length_map]; omega)
            injection ea with ea
            subst ea
            rw [List.getElem_map] at hc'
            exact (q6.cell (p := a.add (i - 1)) (by rw [add_block]; exact ha')).trans hc'
        have hi1 : i + 1 ≤ T.length := hlt
        obtain ⟨t, ht⟩ : ∃ t, t = T[i].1 := ⟨_, rfl⟩
        rw [← ht] at g1 g2 g3 g5 BL c0
        simp only [← ht] at hprev
        have U := Lib.hid fun b => runder_any t k b (by omega) (by omega)
        rw [g1] at U
        obtain ⟨n1, n2⟩ := ne_nil g2
        have hts : (0 : Int) < (t.size : Int) := by omega
        have FIN := Lib.hid g5
        clear ht g1 g4 g5 hcell f4
        have qL := q14.trans q6
        have TL := Lib.hid (t1.out.on qL)
        have HEB := Lib.hid (show endsB t d = ((t.extract (t.size - 1) t.size).toList == d.toList) from rfl)
        obtain ⟨eb, heb⟩ : ∃ eb, eb = endsB t d := ⟨_, rfl⟩
        have hends : ((t.extract (t.size - 1) t.size).toList == d.toList) = eb := by rw [heb]; rfl
        have HD := Lib.hid (fun h : eb = true => ends_size (by rw [← heb]; exact h) g2)
        have HEBE := Lib.hid heb
        clear heb
        rcases hprev with hi0 | ⟨j, hij, y, cy, hy⟩
        · have hj3 : ¬ (0 : Int) < (i : Int) := by omega
          clear hi0
          go_wp2_with fail
          refine (U.out _).mono ?_
          rintro e w7 ⟨rfl, rfl⟩
          go_wp2_with fail
          go_loopw [11, 12] (fun B J wr2 => ∃ j : Nat, j ≤ L.length ∧ J = .int .i64 j ∧ B = .bool ((L.take j).any (fndB t d)) ∧ Q wr wr2) (fun _ J _ => L.length - (intOf J).toNat)
          case atStart => exact ⟨0, Nat.zero_le _, rfl, by simp, Q.refl _⟩
          case round =>
            obtain ⟨m, hml, rfl, rfl, q8⟩ := hrel
            by_cases hlm : m < L.length
            · obtain ⟨am, cm, hvm, -, A2, c2, -, hat⟩ := TL.out.pick m hlm
              injection hvm with e1 e2 e3
              subst e1 e3
              obtain ⟨m0, -⟩ := hat _ q8
              have hx := HKL.out _ (List.getElem_mem hlm)
              have HN := Lib.hid (any_take (fndB t d) hlm)
              have HF0 : fndB t d L[m] = (decide (L[m].key = t) || (underO L[m].key t && eb)) := by rw [HEBE.out]; rfl
              rw [HF0] at HN
              have hmlt : (m : Int) < (L.length : Int) := by omega
              obtain ⟨x, hxe⟩ : ∃ x, x = L[m].key := ⟨_, rfl⟩
              rw [← hxe] at m0 hx HN
              obtain ⟨kb, hkb⟩ : ∃ kb, kb = (L.take m).any (fndB t d) := ⟨_, rfl⟩
              rw [← hkb] at HN ⊢
              have UU := Lib.hid fun b => runder_any x t b hx (by omega)
              obtain ⟨un, hun⟩ : ∃ un, un = underO x t := ⟨_, rfl⟩
              rw [← hun] at UU HN
              clear HF0 hat hxe hkb hun
              cases kb with
              | true =>
                have HV := Lib.hid (show (L.take (m + 1)).any (fndB t d) = true by rw [HN.out]; simp)
                go_wp2
                go_roundw
                case rel => exact ⟨m + 1, by omega, by go_num, by rw [HV.out], q8⟩
                case measure => simp [intOf]; omega
              | false =>
                by_cases hxt : x = t
                · have he : (x.toList == t.toList) = true := by rw [hxt]; simp
                  have HV := Lib.hid (show (L.take (m + 1)).any (fndB t d) = true by rw [HN.out]; simp [hxt])
                  clear hxt
                  go_wp2
                  go_roundw
                  case rel => exact ⟨m + 1, by omega, by go_num, by rw [HV.out], q8⟩
                  case measure => simp [intOf]; omega
                · have he : (x.toList == t.toList) = false := key_ne hxt
                  have HV := Lib.hid (show (L.take (m + 1)).any (fndB t d) = (un && eb) by rw [HN.out]; simp [hxt])
                  clear hxt
                  cases un with
                  | false =>
                    go_wp2_with fail
                    refine (UU.out _).mono ?_
                    rintro e w9 ⟨rfl, rfl⟩
                    go_wp2
                    go_roundw
                    case rel => exact ⟨m + 1, by omega, by go_num, by rw [HV.out]; rfl, q8⟩
                    case measure => simp [intOf]; omega
                  | true =>
                    go_wp2_with fail
                    refine (UU.out _).mono ?_
                    rintro e w9 ⟨rfl, rfl⟩
                    cases eb <;>
                    · go_wp2
                      go_roundw
                      case rel => exact ⟨m + 1, by omega, by go_num, by rw [HV.out]; rfl, q8⟩
                      case measure => simp [intOf]; omega
            · obtain rfl : m = L.length := by omega
              rw [List.take_length, FIN.out]
              have q68 := q6.trans q8
              cases eb with
              | false =>
                rcases Nat.eq_zero_or_pos d.size with hd0 | hd0
                · have hdn := is_nil hd0
                  go_wp2
                  go_roundw
                  case rel => exact ⟨i + 1, by omega, by go_num, q68⟩
                  case measure => simp [intOf]; omega
                · obtain ⟨d1, d2⟩ := ne_nil hd0
                  go_wp2
                  go_roundw
                  case rel => exact ⟨i + 1, by omega, by go_num, q68⟩
                  case measure => simp [intOf]; omega
              | true =>
                obtain ⟨d1, d2⟩ := ne_nil (HD.out rfl)
                go_wp2_with fail
                refine (BL.out _ _ (TL.out.on q8)).mono ?_
                rintro e w9 ⟨A9, c9, n9, rfl, h9, q9⟩
                have h91 : ¬ (n9 : Int) + 1 < 1 := by omega
                go_wp2
                go_roundw
                case rel => exact ⟨i + 1, by omega, by go_num, q68.trans q9⟩
                case measure => simp [intOf]; omega
        · have hj1 : (i : Int) - 1 = (j : Int) := by omega
          have hj2 : (j : Int) < (T.length : Int) := by omega
          have hj3 : (0 : Int) < (i : Int) := by omega
          have hy2 : Op.bytesLess y.toList t.toList = true := hy
          clear hy hij
          go_wp2_with fail
          refine (U.out _).mono ?_
          rintro e w7 ⟨rfl, rfl⟩
          go_wp2_with fail
          go_loopw [11, 12] (fun B J wr2 => ∃ j : Nat, j ≤ L.length ∧ J = .int .i64 j ∧ B = .bool ((L.take j).any (fndB t d)) ∧ Q wr wr2) (fun _ J _ => L.length - (intOf J).toNat)
          case atStart => exact ⟨0, Nat.zero_le _, rfl, by simp, Q.refl _⟩
          case round =>
            obtain ⟨m, hml, rfl, rfl, q8⟩ := hrel
            by_cases hlm : m < L.length
            · obtain ⟨am, cm, hvm, -, A2, c2, -, hat⟩ := TL.out.pick m hlm
              injection hvm with e1 e2 e3
              subst e1 e3
              obtain ⟨m0, -⟩ := hat _ q8
              have hx := HKL.out _ (List.getElem_mem hlm)
              have HN := Lib.hid (any_take (fndB t d) hlm)
              have HF0 : fndB t d L[m] = (decide (L[m].key = t) || (underO L[m].key t && eb)) := by rw [HEBE.out]; rfl
              rw [HF0] at HN
              have hmlt : (m : Int) < (L.length : Int) := by omega
              obtain ⟨x, hxe⟩ : ∃ x, x = L[m].key := ⟨_, rfl⟩
              rw [← hxe] at m0 hx HN
              obtain ⟨kb, hkb⟩ : ∃ kb, kb = (L.take m).any (fndB t d) := ⟨_, rfl⟩
              rw [← hkb] at HN ⊢
              have UU := Lib.hid fun b => runder_any x t b hx (by omega)
              obtain ⟨un, hun⟩ : ∃ un, un = underO x t := ⟨_, rfl⟩
              rw [← hun] at UU HN
              clear HF0 hat hxe hkb hun
              cases kb with
              | true =>
                have HV := Lib.hid (show (L.take (m + 1)).any (fndB t d) = true by rw [HN.out]; simp)
                go_wp2
                go_roundw
                case rel => exact ⟨m + 1, by omega, by go_num, by rw [HV.out], q8⟩
                case measure => simp [intOf]; omega
              | false =>
                by_cases hxt : x = t
                · have he : (x.toList == t.toList) = true := by rw [hxt]; simp
                  have HV := Lib.hid (show (L.take (m + 1)).any (fndB t d) = true by rw [HN.out]; simp [hxt])
                  clear hxt
                  go_wp2
                  go_roundw
                  case rel => exact ⟨m + 1, by omega, by go_num, by rw [HV.out], q8⟩
                  case measure => simp [intOf]; omega
                · have he : (x.toList == t.toList) = false := key_ne hxt
                  have HV := Lib.hid (show (L.take (m + 1)).any (fndB t d) = (un && eb) by rw [HN.out]; simp [hxt])
                  clear hxt
                  cases un with
                  | false =>
                    go_wp2_with fail
                    refine (UU.out _).mono ?_
                    rintro e w9 ⟨rfl, rfl⟩
                    go_wp2
                    go_roundw
                    case rel => exact ⟨m + 1, by omega, by go_num, by rw [HV.out]; rfl, q8⟩
                    case measure => simp [intOf]; omega
                  | true =>
                    go_wp2_with fail
                    refine (UU.out _).mono ?_
                    rintro e w9 ⟨rfl, rfl⟩
                    cases eb <;>
                    · go_wp2
                      go_roundw
                      case rel => exact ⟨m + 1, by omega, by go_num, by rw [HV.out]; rfl, q8⟩
                      case measure => simp [intOf]; omega
            · obtain rfl : m = L.length := by omega
              rw [List.take_length, FIN.out]
              have q68 := q6.trans q8
              cases eb with
              | false =>
                rcases Nat.eq_zero_or_pos d.size with hd0 | hd0
                · have hdn := is_nil hd0
                  go_wp2
                  go_roundw
                  case rel => exact ⟨i + 1, by omega, by go_num, q68⟩
                  case measure => simp [intOf]; omega
                · obtain ⟨d1, d2⟩ := ne_nil hd0
                  go_wp2
                  go_roundw
                  case rel => exact ⟨i + 1, by omega, by go_num, q68⟩
                  case measure => simp [intOf]; omega
              | true =>
                obtain ⟨d1, d2⟩ := ne_nil (HD.out rfl)
                go_wp2_with fail
                refine (BL.out _ _ (TL.out.on q8)).mono ?_
                rintro e w9 ⟨A9, c9, n9, rfl, h9, q9⟩
                have h91 : ¬ (n9 : Int) + 1 < 1 := by omega
                go_wp2
                go_roundw
                case rel => exact ⟨i + 1, by omega, by go_num, q68.trans q9⟩
                case measure => simp [intOf]; omega
      · go_wp2_with fail
        refine (awake_any7 _).mono ?_
        rintro e w9 ⟨rfl, q9⟩
        go_wp2
        go_ret
        exact ⟨rfl, ((q1.trans q14).trans q6).trans q9⟩
  · simp only [List.length_nil] at TC
    go_enter Try.func8, Try.ntmps8
    go_wp2_with fail
    refine (FW.out _ (Q.refl _)).mono ?_
    rintro e w1 ⟨v1, rfl, e1, q1⟩
    have t1 := Lib.hid e1
    clear e1
    go_wp2_with fail
    refine (FK.out _).mono ?_
    rintro e w2 ⟨rfl, q2⟩
    go_wp2_with fail
    refine (FD.out _).mono ?_
    rintro e w3 ⟨rfl, q3⟩
    go_wp2_with fail
    refine (TC.out _ _ (t1.out.on (q2.trans q3))).mono ?_
    rintro e w4 ⟨A4, c4, rfl, e4, q4⟩
    go_wp2_with fail
    refine (awake_any7 _).mono ?_
    rintro e w9 ⟨rfl, q9⟩
    have q := (((q1.trans q2).trans q3).trans q4).trans q9
    clear t1 FW FK FD TC e4
    go_wp2
    go_ret
    exact ⟨rfl, q⟩

set_option maxRecDepth 100000 in
theorem lifted (os : Os) (started : os.Started) (H : Type) (enc : TypeId × Value → H) :
    ReturnsInHanded {} Try.checked os 8 .any (Rows.pagerGroupsSpec.pre6 enc Try.prog Try.f8 Rows.pagerGroupsRow.domain false) (Rows.pagerGroupsSpec.post enc Try.prog Try.f8 false true false false) := by
  refine returnsInHanded_of_change (C := Try.checked) own started (by kernel_rfl) Try.func8
    (ChangeSpec.witness6 (enc := enc) (C := Try.checked) false ⟨#[], #[.slice none 0 0, .string ByteArray.empty, .string ByteArray.empty], []⟩ 8 (by kernel_rfl) (by kernel_rfl) (by kernel_rfl) (by kernel_rfl)) ?_
  intro W base args ds gs before hval0 hW hcnd _
  have hval : ∀ (j : Nat) t v, Try.f8.params[j]? = some t → args[j]? = some v → Value.okWide Try.prog W .any base t v := hval0
  have hW' := hW
  obtain ⟨p, q, hA0, hV, rfl, hfz, hnd⟩ := hW
  have hA : DataW.TrodAll enc Try.prog W 0 (fun _ => true) true Try.f8.params.toList args.toList ds p := hA0
  rw [Try.params8] at hA hval
  obtain ⟨v0, vs0, d0, ds0, p0, q0, hargs, rfl, rfl, h0, r0⟩ := trodAll_cons hA
  obtain ⟨v1, vs1, d1, ds1, p1, q1, rfl, rfl, rfl, h1, r1⟩ := trodAll_cons r0
  obtain ⟨v2, vs2, d2, ds2, p2, q2, rfl, rfl, rfl, h2, r2⟩ := trodAll_cons r1
  obtain ⟨rfl, rfl, rfl⟩ := trodAll_nil r2
  obtain rfl : args = #[v0, v1, v2] := by cases args; simp_all
  obtain ⟨rfl, rfl⟩ := trodVars_none hV
  clear hA0 hval0
  simp only [List.append_nil] at hW'
  have hlt : ∀ x ∈ p0 ++ p1 ++ p2, x.block < W.heap.size := fun x hx => by simpa using hW'.lt x (by simpa using hx)
  obtain ⟨l0, t0, z0⟩ := open_ents (hval 0 22 v0 rfl rfl) h0
  obtain ⟨a1, rfl, -, -, w1⟩ := open_string Try.underlying9 (hval 1 9 v1 rfl rfl) h1
  obtain ⟨a2, rfl, -, -, w2⟩ := open_string Try.underlying9 (hval 2 9 v2 rfl rfl) h2
  refine (walk l0 v0 a1 a2 W t0 z0 w1 w2).mono fun e W' ⟨he, bel⟩ => ?_
  subst he
  refine ⟨_, rfl, _, _, _, [], _, [], hW', trodAll_mk1 (shut_bool Try.underlying4 _), (trodAll_cons_mk (Below.trod laid (by kernel_rfl) (of_decide_eq_true (by kernel_rfl)) h0 bel (fun x hx => hlt x (by simp [hx]))) (trodAll_cons_mk (Below.trod laid (by kernel_rfl) (of_decide_eq_true (by kernel_rfl)) h1 bel (fun x hx => hlt x (by simp [hx]))) (trodAll_cons_mk (Below.trod laid (by kernel_rfl) (of_decide_eq_true (by kernel_rfl)) h2 bel (fun x hx => hlt x (by simp [hx]))) trodAll_mk0))), rfl, Below.frame bel _, fun h => by cases h⟩

theorem over : Rows.pagerGroupsRow.holds Try.pinned (OpenSpec.ofChange Rows.pagerGroupsSpec) :=
  OpenClaim.holds_of_wide 8 Try.f8 rfl rfl rfl rfl rfl rfl rfl ⟨rfl, rfl, rfl, rfl, rfl⟩ rfl rfl rfl rfl rfl (by kernel_rfl) Try.func8 (by kernel_rfl)
    (of_decide_eq_true (by kernel_rfl)) (by unfold Func.isWrapper; first | (rw [if_pos (by decide +kernel)]; kernel_rfl) | (rw [if_neg (by decide +kernel)]; exact ⟨rfl, rfl⟩))
    (fun os started H enc _ => lifted os started H enc)

theorem proved : Rows.PagerGroupsSaid := over
#print axioms proved
end Go.Proofs.Ytipipjpdlblifaa.pagerGroups
