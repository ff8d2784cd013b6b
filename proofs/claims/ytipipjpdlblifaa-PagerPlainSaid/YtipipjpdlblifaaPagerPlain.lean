/-
  Proved: whatever index and prefix PagerPlain is called with, it returns true and leaves what it was given as it was. No condition.
-/
import Derived.Test.YtipipjpdlblifaaGNo
import Derived.Test.YtipipjpdlblifaaGPlainL
namespace Go.Proofs.Ytipipjpdlblifaa.pagerPlain
open Go.ChangeShapes Go.WideShapes Go.ChangeAt Go.RowKit
open Go.ChangeMaps (open_string shut_string)
set_option linter.unusedVariables false
set_option linter.unusedSimpArgs false

set_option maxHeartbeats 8000000 in
set_option maxRecDepth 100000 in
theorem walk (l : List Ent) (v : Value) (prefix0 : ByteArray) (w : World) (t0 : Ents w w.heap.size v l) (z0 : l.length ≤ maxLen) (wk : prefix0.size ≤ maxLen) :
    Calls Try.prog 7 #[v, .string prefix0] w fun e w' => e = .returned (.bool true) ∧ Q w w' := by
  obtain ⟨L, hL, hlen, hfew, htiny, FW⟩ := few_allE l v w z0 t0
  obtain ⟨k, hk, hks, FK⟩ := few_key prefix0 wk
  have hs := tiny_small (by omega) htiny
  obtain ⟨R, hR⟩ := chkI_ex L
  obtain ⟨N, kn, hN, TC⟩ := things_whole L k ⟨#[]⟩ R hR hs (by omega) (by decide)
  obtain ⟨P, kp, hP, KC⟩ := keys_whole L k ⟨#[]⟩ ⟨#[]⟩ 1000 R hR hs (by omega) (by decide) (by decide)
  have hpg : pgO ⟨#[]⟩ 1000 = true := by decide +kernel
  have hd0 : hasO 0 1 ko ⟨#[]⟩ = true := by decide +kernel
  rw [hpg, hd0] at hP
  rw [hd0] at hN
  simp only [Bool.and_true] at hN hP
  have hall : okI L → ∀ e ∈ L, 0 < e.L.length := fun h e he => ((okI_iff.1 h).2.2 e he).2.1
  have hkl : ∀ e ∈ L, e.key.size ≤ 1000 := fun e he => (hs.2 e he).1
  have hL1 := hs.1
  clear hL hk hfew htiny t0 hpg hd0 hR hs
  rcases hN with ⟨h, hI, hN, rfl⟩ | ⟨h, rfl, rfl⟩
  · have hP2 := hP.resolve_right (fun q => by rw [h] at q; exact absurd q.1 (by simp))
    obtain ⟨-, -, hP3, rfl⟩ := hP2
    have hp : hasO 0 60 ko k = true := by simp only [Bool.and_eq_true] at h; exact h.2
    obtain ⟨p1, p2, p3⟩ := plain_page hI hp
    rw [p1] at hN
    rw [show (1000 : Int).toNat = 1000 from rfl, p2] at hP3
    have hall2 := hall hI
    obtain ⟨la, hla⟩ : ∃ la, la = lastT (thgs k ⟨#[]⟩ L) := ⟨_, rfl⟩
    rw [← hla] at hP3
    subst hP3
    clear hP p1 p2 h hp hI hall hla
    subst hN
    have SM := same_yes (wantL k L) (by omega)
    have HALL := Lib.hid hall2
    have HKL := Lib.hid hkl
    clear hall2 hkl
    obtain ⟨i0, hi, hz0, hz1, hz2⟩ := info_parts info_str
    unfold KeysP at KC
    simp only [List.length_nil] at KC
    go_enter Try.func7, Try.ntmps7
    go_wp2_with fail
    refine (FW.out _ (Q.refl _)).mono ?_
    rintro e w1 ⟨v1, rfl, e1, q1⟩
    have t1 := Lib.hid e1
    clear e1
    go_wp2_with fail
    refine (FK.out _).mono ?_
    rintro e w2 ⟨rfl, q2⟩
    go_wp2_with fail
    refine (TC.out _ _ (t1.out.on q2)).mono ?_
    rintro e w3 ⟨A3, c3, rfl, e3, q3⟩
    have t3 := Lib.hid e3
    clear e3
    have q23 := q2.trans q3
    go_wp2_with fail
    refine (KC.out _ _ (t1.out.on q23)).mono ?_
    rintro e w4 ⟨A4, c4, A5, c5, rfl, e4, -, q4⟩
    have t4 := Lib.hid e4
    clear e4
    have bx := Bx.new w4 29 #[.slice A4 (wantL k L).length c4, .slice A5 0 c5, .bool false, .string la]
    have q5 : Q w4 (w4.alloc (.cells #[.slice A4 (wantL k L).length c4, .slice A5 0 c5, .bool false, .string la] 29)) := (Q.refl w4).alloc _
    obtain ⟨w5, hw5⟩ : ∃ w5, w5 = w4.alloc (.cells #[.slice A4 (wantL k L).length c4, .slice A5 0 c5, .bool false, .string la] 29) := ⟨_, rfl⟩
    have q15 : Q w1 w5 := by rw [hw5]; exact (q23.trans q4).trans q5
    have q35 : Q w3 w5 := by rw [hw5]; exact q4.trans q5
    have q45 : Q w4 w5 := by rw [hw5]; exact q5
    rw [← hw5] at bx
    obtain ⟨A1, c1, rfl⟩ := t1.out.form
    clear q5
    go_wp2_with fail
    rw [← hw5]
    go_loopw [9, 10] (fun V I wr => ∃ i : Nat, i ≤ L.length ∧ I = .int .i64 i ∧ RowS w5.heap.size wr V (wantL k (L.take i)) ∧ Q w5 wr) (fun _ I _ => L.length - (intOf I).toNat)
    case atStart => exact ⟨0, Nat.zero_le _, rfl, RowS.nil _ _, Q.refl _⟩
    case round =>
      obtain ⟨i, hil, rfl, hr, q6⟩ := hrel
      have q16 := q15.trans q6
      by_cases hlt : i < L.length
      · obtain ⟨a, c', hv, ha, A2, c2, hvs, hat⟩ := t1.out.pick i hlt
        injection hv with e1 e2 e3
        subst e1 e3
        obtain ⟨d0, d1⟩ := hat _ q16
        have hn0 := HALL.out _ (List.getElem_mem hlt)
        have hx := HKL.out _ (List.getElem_mem hlt)
        have hilt : (i : Int) < (L.length : Int) := by omega
        obtain ⟨m, M, hM⟩ : ∃ m M, L[i].L = m :: M := by cases h : L[i].L with
          | nil => rw [h] at hn0; simp at hn0
          | cons m M => exact ⟨m, M, rfl⟩
        obtain ⟨a2, hA2, hat2⟩ : ∃ a2, A2 = some a2 ∧ At wr a2 m := by
          obtain ⟨a2, e, h2, h3⟩ := hvs.pick 0 hn0
          have h4 := h3 _ q16
          rw [Nat.zero_mul, show a2.add 0 = a2 by cases a2; simp [Addr.add]] at h4
          exact ⟨a2, e, by simpa [hM] using h4⟩
        subst hA2
        obtain ⟨-, -, ct, -⟩ := hat2
        have HTN : isT k L[i] = (underO L[i].key k && !m.mark) := by simp [isT, hdM, hM]
        have W1 := Lib.hid (fun h : isT k L[i] = true => wantL_yes (p := k) hlt h)
        have W0 := Lib.hid (fun h : isT k L[i] = false => wantL_no (p := k) hlt h)
        rw [HTN] at W1 W0
        obtain ⟨x, hxe⟩ : ∃ x, x = L[i].key := ⟨_, rfl⟩
        obtain ⟨n, hn⟩ : ∃ n, n = L[i].L.length := ⟨_, rfl⟩
        have hnl : (0 : Int) < (n : Int) := by omega
        rw [← hxe] at d0 hx W1 W0
        rw [← hn] at d1
        obtain ⟨T, hT⟩ : ∃ T, T = wantL k (L.take i) := ⟨_, rfl⟩
        rw [← hT] at hr W1 W0
        have hTl : T.length ≤ 61 := by rw [hT, wantL, List.length_map]; refine Nat.le_trans (List.length_filter_le _ _) ?_; rw [List.length_take]; omega
        have U := Lib.hid fun b => runder_any x k b hx (by omega)
        obtain ⟨un, hun⟩ : ∃ un, un = underO x k := ⟨_, rfl⟩
        obtain ⟨mk0, hmk⟩ : ∃ mk0, mk0 = m.mark := ⟨_, rfl⟩
        rw [← hun] at U W1 W0
        rw [← hmk] at W1 W0 ct
        have h5 := q6.size
        clear hat hvs hM HTN hxe hn hT hun hmk hn0
        cases un with
        | false =>
          have HV := Lib.hid (W0.out (by simp))
          clear W1 W0
          go_wp2_with fail
          refine (U.out _).mono ?_
          rintro e w7 ⟨rfl, rfl⟩
          go_wp2
          go_roundw
          case rel => exact ⟨i + 1, by omega, by go_num, by rw [HV.out]; exact hr, q6⟩
          case measure => simp [intOf]; omega
        | true =>
          cases mk0 with
          | true =>
            have HV := Lib.hid (W0.out (by simp))
            clear W1 W0
            go_wp2_with fail
            refine (U.out _).mono ?_
            rintro e w7 ⟨rfl, rfl⟩
            go_wp2
            go_roundw
            case rel => exact ⟨i + 1, by omega, by go_num, by rw [HV.out]; exact hr, q6⟩
            case measure => simp [intOf]; omega
          | false =>
            have HV := Lib.hid (W1.out (by simp))
            clear W1 W0
            go_wp2_with fail
            refine (U.out _).mono ?_
            rintro e w7 ⟨rfl, rfl⟩
            go_wp2_with (at_builtin; refine wpList_append_own _ rfl _ _ 27 rfl w5.heap.size 9 i0 (.string ⟨#[]⟩) 1 16 Try.underlying27 hi hz0 hz1 hz2 rfl (by decide) _ _ _ rfl (World.ownsRow.alloc hr _) ⟨wr.heap.size, 0, none⟩ 1 1 [.string x] rfl rfl (cell_one_new _ _ _) (by simp [Value.oneCell']) (by unfold maxLen; omega) (by omega) (by simp; omega) ?_; intro v' w8 hown' hgrow _; obtain ⟨r1, r2, r3, r4⟩ := rowS_more hr h5 hown' hgrow; clear hown' hgrow)
            go_roundw
            case rel => exact ⟨i + 1, by omega, by go_num, by rw [HV.out]; exact r1, Below.trans q6 r4⟩
            case measure => simp [intOf]; omega
      · obtain rfl : i = L.length := by omega
        rw [List.take_length] at hr
        have tx := Lib.hid hr.txts
        obtain ⟨A6, c6, rfl⟩ := hr.form
        clear hr
        go_wp2_with fail
        refine (SM.out _ _ _ (t3.out.on (q35.trans q6)) tx.out).mono ?_
        rintro e w7 ⟨rfl, q7⟩
        have b7 := (bx.on q6).on q7
        have x0 := b7.cell 0
        simp only [List.getElem?_toArray, List.getElem?_cons_zero, List.getElem?_cons_succ] at x0
        go_wp2_with fail
        refine (SM.out _ _ _ (t4.out.on ((q45.trans q6).trans q7)) (tx.out.on q7)).mono ?_
        rintro e w8 ⟨rfl, q8⟩
        have b8 := b7.on q8
        have x1 := b8.cell 1
        have x2 := b8.cell 2
        simp only [List.getElem?_toArray, List.getElem?_cons_zero, List.getElem?_cons_succ] at x1 x2
        go_wp2_with fail
        refine (awake_any7 _).mono ?_
        rintro e w9 ⟨rfl, q9⟩
        have q := (((q1.trans q16).trans q7).trans q8).trans q9
        clear tx t1 t3 t4 SM FW FK TC KC
        go_wp2
        go_ret
        exact ⟨rfl, q⟩
  · have hP2 := hP.resolve_left (fun q => by rw [h] at q; exact absurd q.1 (by simp))
    obtain ⟨-, rfl, rfl⟩ := hP2
    clear hP h hall hkl
    unfold KeysP noPg at KC
    simp only [List.length_nil] at KC TC
    go_enter Try.func7, Try.ntmps7
    go_wp2_with fail
    refine (FW.out _ (Q.refl _)).mono ?_
    rintro e w1 ⟨v1, rfl, e1, q1⟩
    have t1 := Lib.hid e1
    clear e1
    go_wp2_with fail
    refine (FK.out _).mono ?_
    rintro e w2 ⟨rfl, q2⟩
    go_wp2_with fail
    refine (TC.out _ _ (t1.out.on q2)).mono ?_
    rintro e w3 ⟨A3, c3, rfl, -, q3⟩
    go_wp2_with fail
    refine (KC.out _ _ (t1.out.on (q2.trans q3))).mono ?_
    rintro e w4 ⟨A4, c4, A5, c5, rfl, -, -, q4⟩
    go_wp2_with fail
    refine (awake_any7 _).mono ?_
    rintro e w9 ⟨rfl, q9⟩
    have q := ((((q1.trans q2).trans q3).trans q4).alloc (.cells #[.slice A4 0 c4, .slice A5 0 c5, .bool false, .string ⟨#[]⟩] 29)).trans q9
    clear t1 FW FK TC KC
    go_wp2
    go_ret
    exact ⟨rfl, q⟩

set_option maxRecDepth 100000 in
theorem lifted (os : Os) (started : os.Started) (H : Type) (enc : TypeId × Value → H) :
    ReturnsInHanded {} Try.checked os 7 .any (Rows.pagerPlainSpec.pre6 enc Try.prog Try.f7 Rows.pagerPlainRow.domain false) (Rows.pagerPlainSpec.post enc Try.prog Try.f7 false true false false) := by
  refine returnsInHanded_of_change (C := Try.checked) own started (by kernel_rfl) Try.func7
    (ChangeSpec.witness6 (enc := enc) (C := Try.checked) false ⟨#[], #[.slice none 0 0, .string ByteArray.empty], []⟩ 8 (by kernel_rfl) (by kernel_rfl) (by kernel_rfl) (by kernel_rfl)) ?_
  intro W base args ds gs before hval0 hW hcnd _
  have hval : ∀ (j : Nat) t v, Try.f7.params[j]? = some t → args[j]? = some v → Value.okWide Try.prog W .any base t v := hval0
  have hW' := hW
  obtain ⟨p, q, hA0, hV, rfl, hfz, hnd⟩ := hW
  have hA : DataW.TrodAll enc Try.prog W 0 (fun _ => true) true Try.f7.params.toList args.toList ds p := hA0
  rw [Try.params7] at hA hval
  obtain ⟨v0, vs0, d0, ds0, p0, q0, hargs, rfl, rfl, h0, r0⟩ := trodAll_cons hA
  obtain ⟨v1, vs1, d1, ds1, p1, q1, rfl, rfl, rfl, h1, r1⟩ := trodAll_cons r0
  obtain ⟨rfl, rfl, rfl⟩ := trodAll_nil r1
  obtain rfl : args = #[v0, v1] := by cases args; simp_all
  obtain ⟨rfl, rfl⟩ := trodVars_none hV
  clear hA0 hval0
  simp only [List.append_nil] at hW'
  have hlt : ∀ x ∈ p0 ++ p1, x.block < W.heap.size := fun x hx => by simpa using hW'.lt x (by simpa using hx)
  obtain ⟨l0, t0, z0⟩ := open_ents (hval 0 22 v0 rfl rfl) h0
  obtain ⟨a1, rfl, -, -, w1⟩ := open_string Try.underlying9 (hval 1 9 v1 rfl rfl) h1
  refine (walk l0 v0 a1 W t0 z0 w1).mono fun e W' ⟨he, bel⟩ => ?_
  subst he
  refine ⟨_, rfl, _, _, _, [], _, [], hW', trodAll_mk1 (shut_bool Try.underlying4 _), (trodAll_cons_mk (Below.trod laid (by kernel_rfl) (of_decide_eq_true (by kernel_rfl)) h0 bel (fun x hx => hlt x (by simp [hx]))) (trodAll_cons_mk (Below.trod laid (by kernel_rfl) (of_decide_eq_true (by kernel_rfl)) h1 bel (fun x hx => hlt x (by simp [hx]))) trodAll_mk0)), rfl, Below.frame bel _, fun h => by cases h⟩

theorem over : Rows.pagerPlainRow.holds Try.pinned (OpenSpec.ofChange Rows.pagerPlainSpec) :=
  OpenClaim.holds_of_wide 7 Try.f7 rfl rfl rfl rfl rfl rfl rfl ⟨rfl, rfl, rfl, rfl, rfl⟩ rfl rfl rfl rfl rfl (by kernel_rfl) Try.func7 (by kernel_rfl)
    (of_decide_eq_true (by kernel_rfl)) (by unfold Func.isWrapper; first | (rw [if_pos (by decide +kernel)]; kernel_rfl) | (rw [if_neg (by decide +kernel)]; exact ⟨rfl, rfl⟩))
    (fun os started H enc _ => lifted os started H enc)

theorem proved : Rows.PagerPlainSaid := over
#print axioms proved
end Go.Proofs.Ytipipjpdlblifaa.pagerPlain
