/-
  Proved: whatever number, list of texts and text WireLays is called with, it returns true and leaves what it was given as it was. No condition.
-/
import Derived.Test.YtneclkkbgonkcaaWAwake
import Derived.Test.YtneclkkbgonkcaaWPlain
import Derived.Test.YtneclkkbgonkcaaCoreOpen
namespace Go.Proofs.Ytneclkkbgonkcaa.wireLays
open Go.ChangeShapes Go.WideShapes Go.ChangeAt Go.RowKit
open Go.ChangeMaps (open_string shut_string)
set_option linter.unusedVariables false

attribute [local irreducible] lst tx oct okL texts few

theorem nat64 {a : Int} (h : (Lit.int .u64 a).wf = true) : ∃ n : Nat, a = n ∧ n < 18446744073709551616 := by
  have : 0 ≤ a ∧ a ≤ 18446744073709551615 := by simpa [Lit.wf, IntKind.min, IntKind.max, IntKind.signed, IntKind.bits] using h
  exact ⟨a.toNat, by omega, by omega⟩

set_option maxHeartbeats 8000000 in
set_option maxRecDepth 100000 in
theorem walk (a0 : Int) (a1 : List ByteArray) (v1 : Value) (a2 : ByteArray) (w : World) (w0 : (Lit.int .u64 a0).wf = true) (t1 : Txts w w.heap.size v1 a1) (w1 : a1.length ≤ maxLen) (s1 : ∀ s ∈ a1, s.size ≤ maxLen) (w2 : a2.size ≤ maxLen) :
    Calls Try.prog 3 #[.int .u64 a0, v1, .string a2] w fun e w' => e = .returned (.bool true) ∧ Q w w' := by
  obtain ⟨n, rfl, hn⟩ := nat64 w0
  clear w0
  have k1 := texts_len a1
  have S1 := Lib.hid (texts_size a1)
  have l1 : (texts a1).length ≤ 1000000 := by omega
  have z1 : ∀ s ∈ texts a1, s.size ≤ 5000 := fun s h => Nat.le_trans (S1.out s h) (show 4100 ≤ 5000 by omega)
  have Z1 := Lib.hid z1
  have C0 := Lib.hid fun w => few_any a2 w w2
  have hb := few_size a2
  obtain ⟨b, hbe⟩ : ∃ b, b = few a2 := ⟨_, rfl⟩
  rw [← hbe] at C0 hb
  clear hbe
  have C1 := Lib.hid fun w => num_any n w hn
  have C3 := Lib.hid fun w => rnum_any n w hn
  have hN : (mk (oct n 8)).size ≤ 8 := by rw [mk_size, oct_length]; exact Nat.le_refl _
  have C2 := Lib.hid fun w => takeNum_any (mk (oct n 8) ++ b) w (by rw [ByteArray.size_append]; omega) (tn_num hn b)
  obtain ⟨N, hNe⟩ : ∃ N, N = mk (oct n 8) := ⟨_, rfl⟩
  rw [← hNe] at C1 C2 C3 hN
  clear hNe
  have n0 : (⟨#[]⟩ : ByteArray).toList = [] := by kernel_rfl
  cases h1 : okL (texts a1) with
  | false =>
    have V1 := Lib.hid (lstV_no h1)
    have V2 := Lib.hid (rlstV_no h1)
    clear h1
    go_enter Try.func3, Try.ntmps3
    go_wp2_with fail
    refine (texts_any a1 _ _ w1 s1 t1).mono ?_
    rintro e x1 ⟨A1, n1, c1, rfl, o1, q1⟩
    have u1 := Txts.own o1
    clear t1 o1
    go_wp2_with fail
    refine (C0.out _).mono ?_
    rintro e x2 ⟨rfl, rfl⟩
    go_wp2_with fail
    refine (C1.out _).mono ?_
    rintro e x3 ⟨rfl, q3⟩
    go_wp2_with fail
    refine (C2.out _).mono ?_
    rintro e x4 ⟨rfl, q4⟩
    go_wp2_with fail
    refine (C3.out _).mono ?_
    rintro e x5 ⟨rfl, q5⟩
    have q6 := (q1.trans q3).trans (q4.trans q5)
    have u2 := (u1.on q3).on (q4.trans q5)
    clear u1 q1 q3 q4 q5
    go_wp2_with fail
    refine (list_any _ _ _ l1 z1 u2).mono ?_
    rintro e x6 ⟨rfl, q7⟩
    have u3 := u2.on q7
    rw [V1.out]
    go_wp2_with fail
    refine (rlist_any _ _ _ l1 z1 u3).mono ?_
    rintro e x7 ⟨rfl, q8⟩
    have u4 := u3.on q8
    have q9 := (q6.trans q7).trans q8
    clear u2 u3 q6 q7 q8
    rw [V2.out]
    have U4 := Lib.hid u4
    obtain ⟨A, c, e4, hcell⟩ := u4
    injection e4 with e5 e6 e7
    subst e5 e6 e7
    have HC := Lib.hid hcell
    clear hcell
    go_wp2_with fail
    go_loopw [15] (fun i wr => ∃ j : Nat, j ≤ (texts a1).length ∧ i = .int .i64 j ∧ Q x7 wr) (fun i _ => (texts a1).length - (intOf i).toNat)
    case atStart => exact ⟨0, Nat.zero_le _, rfl, Q.refl _⟩
    case round =>
      obtain ⟨j, hj, rfl, qr⟩ := hrel
      by_cases hlt : j < (texts a1).length
      · obtain ⟨a, rfl, ha, hc0⟩ := HC.out j hlt
        obtain ⟨s, hs⟩ : ∃ s, s = (texts a1)[j] := ⟨_, rfl⟩
        have h5 : s.size ≤ 5000 := by rw [hs]; exact Z1.out _ (List.getElem_mem hlt)
        rw [← hs] at hc0
        clear hs
        have hc1 := (Below.cell qr (p := a.add j) (by rw [add_block]; exact ha)).trans hc0
        have ha1 : (a.add j).block < x7.heap.size := by rw [add_block]; exact ha
        clear hc0
        by_cases hbig : s.size ≤ 4000
        · have TX := Lib.hid fun w => text_any s w h5
          rw [if_pos hbig] at TX
          have RX := Lib.hid fun w => rtext_any s w h5
          have hz : (mk (tx s)).size ≤ 6000 := by rw [mk_size, tx_length]; omega
          have TT := Lib.hid fun w => takeText_any (mk (tx s) ++ b) w (by rw [ByteArray.size_append]; omega) (tt_text hbig b)
          obtain ⟨X, hX⟩ : ∃ X, X = mk (tx s) := ⟨_, rfl⟩
          rw [← hX] at TX RX TT hz
          clear hX
          go_wp2_with fail
          refine (TX.out _).mono ?_
          rintro e y1 ⟨rfl, p1⟩
          have hc2 := (Below.cell p1 (Nat.lt_of_lt_of_le ha1 qr.size)).trans hc1
          go_wp2_with fail
          refine (TT.out _).mono ?_
          rintro e y2 ⟨rfl, p2⟩
          have hc3 := (Below.cell p2 (Nat.lt_of_lt_of_le ha1 (qr.trans p1).size)).trans hc2
          go_wp2_with fail
          refine (RX.out _).mono ?_
          rintro e y3 ⟨rfl, p3⟩
          have hc4 := (Below.cell p3 (Nat.lt_of_lt_of_le ha1 ((qr.trans p1).trans p2).size)).trans hc3
          go_wp2_with fail
          go_roundw
          case rel => exact ⟨j + 1, by omega, by go_num, ((qr.trans p1).trans p2).trans p3⟩
          case measure => simp [intOf]; omega
        · have TX := Lib.hid fun w => text_any s w h5
          rw [if_neg hbig] at TX
          go_wp2_with fail
          refine (TX.out _).mono ?_
          rintro e y1 ⟨rfl, p1⟩
          have hc2 := (Below.cell p1 (Nat.lt_of_lt_of_le ha1 qr.size)).trans hc1
          go_wp2_with fail
          go_roundw
          case rel => exact ⟨j + 1, by omega, by go_num, qr.trans p1⟩
          case measure => simp [intOf]; omega
      · obtain rfl : j = (texts a1).length := by omega
        go_wp2_with fail
        refine (awake_any _).mono ?_
        rintro e y9 ⟨rfl, p9⟩
        go_wp2
        go_ret
        exact ⟨rfl, (q9.trans qr).trans p9⟩
  | true =>
    have V1 := Lib.hid (lstV_yes h1)
    have V2 := Lib.hid (rlstV_yes h1)
    have y1 := lst_size (l := texts a1) (by omega) S1.out
    have D1 := Lib.hid fun w => takeList_any (mk (lst (texts a1)) ++ b) w (by rw [ByteArray.size_append]; omega)
    rw [tls_lst' h1] at D1
    have D2 := Lib.hid fun w => whole_any (mk (lst (texts a1))) w (by omega)
    rw [whl_all h1] at D2
    obtain ⟨S, hS⟩ : ∃ S, S = mk (lst (texts a1)) := ⟨_, rfl⟩
    rw [← hS] at V1 V2 y1 D1 D2
    clear hS h1
    go_enter Try.func3, Try.ntmps3
    go_wp2_with fail
    refine (texts_any a1 _ _ w1 s1 t1).mono ?_
    rintro e x1 ⟨A1, n1, c1, rfl, o1, q1⟩
    have u1 := Txts.own o1
    clear t1 o1
    go_wp2_with fail
    refine (C0.out _).mono ?_
    rintro e x2 ⟨rfl, rfl⟩
    go_wp2_with fail
    refine (C1.out _).mono ?_
    rintro e x3 ⟨rfl, q3⟩
    go_wp2_with fail
    refine (C2.out _).mono ?_
    rintro e x4 ⟨rfl, q4⟩
    go_wp2_with fail
    refine (C3.out _).mono ?_
    rintro e x5 ⟨rfl, q5⟩
    have q6 := (q1.trans q3).trans (q4.trans q5)
    have u2 := (u1.on q3).on (q4.trans q5)
    clear u1 q1 q3 q4 q5
    go_wp2_with fail
    refine (list_any _ _ _ l1 z1 u2).mono ?_
    rintro e x6 ⟨rfl, q7⟩
    have u3 := u2.on q7
    rw [V1.out]
    go_wp2_with fail
    refine (rlist_any _ _ _ l1 z1 u3).mono ?_
    rintro e x7 ⟨rfl, q8⟩
    have u4 := u3.on q8
    have q9 := (q6.trans q7).trans q8
    clear u2 u3 q6 q7 q8
    rw [V2.out]
    have U4 := Lib.hid u4
    obtain ⟨A, c, e4, hcell⟩ := u4
    injection e4 with e5 e6 e7
    subst e5 e6 e7
    have HC := Lib.hid hcell
    clear hcell
    go_wp2_with fail
    go_loopw [15] (fun i wr => ∃ j : Nat, j ≤ (texts a1).length ∧ i = .int .i64 j ∧ Q x7 wr) (fun i _ => (texts a1).length - (intOf i).toNat)
    case atStart => exact ⟨0, Nat.zero_le _, rfl, Q.refl _⟩
    case round =>
      obtain ⟨j, hj, rfl, qr⟩ := hrel
      by_cases hlt : j < (texts a1).length
      · obtain ⟨a, rfl, ha, hc0⟩ := HC.out j hlt
        obtain ⟨s, hs⟩ : ∃ s, s = (texts a1)[j] := ⟨_, rfl⟩
        have h5 : s.size ≤ 5000 := by rw [hs]; exact Z1.out _ (List.getElem_mem hlt)
        rw [← hs] at hc0
        clear hs
        have hc1 := (Below.cell qr (p := a.add j) (by rw [add_block]; exact ha)).trans hc0
        have ha1 : (a.add j).block < x7.heap.size := by rw [add_block]; exact ha
        clear hc0
        by_cases hbig : s.size ≤ 4000
        · have TX := Lib.hid fun w => text_any s w h5
          rw [if_pos hbig] at TX
          have RX := Lib.hid fun w => rtext_any s w h5
          have hz : (mk (tx s)).size ≤ 6000 := by rw [mk_size, tx_length]; omega
          have TT := Lib.hid fun w => takeText_any (mk (tx s) ++ b) w (by rw [ByteArray.size_append]; omega) (tt_text hbig b)
          obtain ⟨X, hX⟩ : ∃ X, X = mk (tx s) := ⟨_, rfl⟩
          rw [← hX] at TX RX TT hz
          clear hX
          go_wp2_with fail
          refine (TX.out _).mono ?_
          rintro e y1 ⟨rfl, p1⟩
          have hc2 := (Below.cell p1 (Nat.lt_of_lt_of_le ha1 qr.size)).trans hc1
          go_wp2_with fail
          refine (TT.out _).mono ?_
          rintro e y2 ⟨rfl, p2⟩
          have hc3 := (Below.cell p2 (Nat.lt_of_lt_of_le ha1 (qr.trans p1).size)).trans hc2
          go_wp2_with fail
          refine (RX.out _).mono ?_
          rintro e y3 ⟨rfl, p3⟩
          have hc4 := (Below.cell p3 (Nat.lt_of_lt_of_le ha1 ((qr.trans p1).trans p2).size)).trans hc3
          go_wp2_with fail
          go_roundw
          case rel => exact ⟨j + 1, by omega, by go_num, ((qr.trans p1).trans p2).trans p3⟩
          case measure => simp [intOf]; omega
        · have TX := Lib.hid fun w => text_any s w h5
          rw [if_neg hbig] at TX
          go_wp2_with fail
          refine (TX.out _).mono ?_
          rintro e y1 ⟨rfl, p1⟩
          have hc2 := (Below.cell p1 (Nat.lt_of_lt_of_le ha1 qr.size)).trans hc1
          go_wp2_with fail
          go_roundw
          case rel => exact ⟨j + 1, by omega, by go_num, qr.trans p1⟩
          case measure => simp [intOf]; omega
      · obtain rfl : j = (texts a1).length := by omega
        have u5 := U4.out.on qr
        go_wp2_with fail
        refine (D1.out _).mono ?_
        rintro e y1 ⟨A5, n5, c5, rfl, t5, p1⟩
        have u6 := u5.on p1
        clear u5
        go_wp2_with fail
        refine (D2.out _).mono ?_
        rintro e y2 ⟨A6, n6, c6, rfl, t6, p2⟩
        have u7 := u6.on p2
        have t7 := t5.on p2
        clear u6 t5
        go_wp2_with fail
        refine (same_any _ _ _ _ _ l1 l1 t7 u7).mono ?_
        rintro e y3 ⟨rfl, p3⟩
        have u8 := u7.on p3
        have t8 := t6.on p3
        clear u7 t7 t6
        go_wp2_with fail
        refine (same_any _ _ _ _ _ l1 l1 t8 u8).mono ?_
        rintro e y4 ⟨rfl, p4⟩
        go_wp2_with fail
        refine (awake_any _).mono ?_
        rintro e y9 ⟨rfl, p9⟩
        go_wp2
        go_ret
        exact ⟨rfl, (((((q9.trans qr).trans p1).trans p2).trans p3).trans p4).trans p9⟩

set_option maxRecDepth 100000 in
theorem lifted (os : Os) (started : os.Started) (H : Type) (enc : TypeId × Value → H) :
    ReturnsInHanded {} Try.checked os 3 .any (Rows.wireLaysSpec.pre6 enc Try.prog Try.f3 Rows.wireLaysRow.domain false) (Rows.wireLaysSpec.post enc Try.prog Try.f3 false true false false) := by
  refine returnsInHanded_of_change (C := Try.checked) own started (by kernel_rfl) Try.func3
    (ChangeSpec.witness6 (enc := enc) (C := Try.checked) false ⟨#[], #[.int .u64 0, .slice none 0 0, .string ByteArray.empty], []⟩ 8 (by kernel_rfl) (by kernel_rfl) (by kernel_rfl) (by kernel_rfl)) ?_
  intro W base args ds gs before hval0 hW hcnd _
  have hval : ∀ (j : Nat) t v, Try.f3.params[j]? = some t → args[j]? = some v → Value.okWide Try.prog W .any base t v := hval0
  have hW' := hW
  obtain ⟨p, q, hA0, hV, rfl, hfz, hnd⟩ := hW
  have hA : DataW.TrodAll enc Try.prog W 0 (fun _ => true) true Try.f3.params.toList args.toList ds p := hA0
  rw [Try.params3] at hA hval
  obtain ⟨v0, vs0, d0, ds0, p0, q0, hargs, rfl, rfl, h0, r0⟩ := trodAll_cons hA
  obtain ⟨v1, vs1, d1, ds1, p1, q1, rfl, rfl, rfl, h1, r1⟩ := trodAll_cons r0
  obtain ⟨v2, vs2, d2, ds2, p2, q2, rfl, rfl, rfl, h2, r2⟩ := trodAll_cons r1
  obtain ⟨rfl, rfl, rfl⟩ := trodAll_nil r2
  obtain rfl : args = #[v0, v1, v2] := by cases args; simp_all
  obtain ⟨rfl, rfl⟩ := trodVars_none hV
  clear hA0 hval0
  simp only [List.append_nil] at hW'
  have hlt : ∀ x ∈ p0 ++ p1 ++ p2, x.block < W.heap.size := fun x hx => by simpa using hW'.lt x (by simpa using hx)
  obtain ⟨a0, rfl, -, -, w0⟩ := open_int Try.underlying22 (hval 0 22 v0 rfl rfl) h0
  obtain ⟨a1, t1, w1, s1⟩ := open_txts (hval 1 23 v1 rfl rfl) h1
  obtain ⟨a2, rfl, -, -, w2⟩ := open_string Try.underlying9 (hval 2 9 v2 rfl rfl) h2
  refine (walk a0 a1 v1 a2 W w0 t1 w1 s1 w2).mono fun e W' ⟨he, bel⟩ => ?_
  subst he
  refine ⟨_, rfl, _, _, _, [], _, [], hW', trodAll_mk1 (shut_bool Try.underlying4 _), (trodAll_cons_mk (Below.trod laid (by kernel_rfl) (of_decide_eq_true (by kernel_rfl)) h0 bel (fun x hx => hlt x (by simp [hx]))) (trodAll_cons_mk (Below.trod laid (by kernel_rfl) (of_decide_eq_true (by kernel_rfl)) h1 bel (fun x hx => hlt x (by simp [hx]))) (trodAll_cons_mk (Below.trod laid (by kernel_rfl) (of_decide_eq_true (by kernel_rfl)) h2 bel (fun x hx => hlt x (by simp [hx]))) trodAll_mk0))), rfl, Below.frame bel _, fun h => by cases h⟩

theorem over : Rows.wireLaysRow.holds Try.pinned (OpenSpec.ofChange Rows.wireLaysSpec) :=
  OpenClaim.holds_of_wide 3 Try.f3 rfl rfl rfl rfl rfl rfl rfl ⟨rfl, rfl, rfl, rfl, rfl⟩ rfl rfl rfl rfl rfl (by kernel_rfl) Try.func3 (by kernel_rfl)
    (of_decide_eq_true (by kernel_rfl)) (by unfold Func.isWrapper; first | (rw [if_pos (by decide +kernel)]; kernel_rfl) | (rw [if_neg (by decide +kernel)]; exact ⟨rfl, rfl⟩))
    (fun os started H enc _ => lifted os started H enc)

theorem proved : Rows.WireLaysSaid := over
#print axioms proved
end Go.Proofs.Ytneclkkbgonkcaa.wireLays
