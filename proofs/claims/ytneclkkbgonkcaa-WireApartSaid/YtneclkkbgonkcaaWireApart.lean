/-
  Proved: whatever two lists of texts WireApart is called with, it returns true and leaves what it was given as it was. No condition.
-/
import Derived.Test.YtneclkkbgonkcaaWAwake
import Derived.Test.YtneclkkbgonkcaaWPlain
import Derived.Test.YtneclkkbgonkcaaCoreOpen
namespace Go.Proofs.Ytneclkkbgonkcaa.wireApart
open Go.ChangeShapes Go.WideShapes Go.ChangeAt Go.RowKit
open Go.ChangeMaps (open_string shut_string)
set_option linter.unusedVariables false

attribute [local irreducible] lst tx oct okL texts few

set_option maxHeartbeats 4000000 in
set_option maxRecDepth 100000 in
theorem walk (a0 : List ByteArray) (v0 : Value) (a1 : List ByteArray) (v1 : Value) (w : World) (t0 : Txts w w.heap.size v0 a0) (w0 : a0.length ≤ maxLen) (s0 : ∀ s ∈ a0, s.size ≤ maxLen)
    (t1 : Txts w w.heap.size v1 a1) (w1 : a1.length ≤ maxLen) (s1 : ∀ s ∈ a1, s.size ≤ maxLen) :
    Calls Try.prog 5 #[v0, v1] w fun e w' => e = .returned (.bool true) ∧ Q w w' := by
  have k1 := texts_len a0
  have k2 := texts_len a1
  have S1 := Lib.hid (texts_size a0); have S2 := Lib.hid (texts_size a1)
  obtain ⟨a, ha⟩ : ∃ a, a = texts a0 := ⟨_, rfl⟩
  obtain ⟨b, hb⟩ : ∃ b, b = texts a1 := ⟨_, rfl⟩
  have l1 : (texts a0).length ≤ 1000000 := by omega
  have l2 : (texts a1).length ≤ 1000000 := by omega
  have Z1 := Lib.hid fun s h => Nat.le_trans (S1.out s h) (show 4100 ≤ 5000 by omega)
  have Z2 := Lib.hid fun s h => Nat.le_trans (S2.out s h) (show 4100 ≤ 5000 by omega)
  have z1 : ∀ s ∈ texts a0, s.size ≤ 5000 := Z1.out
  have z2 : ∀ s ∈ texts a1, s.size ≤ 5000 := Z2.out
  cases h1 : okL (texts a0) with
  | false =>
    have V1 := Lib.hid (lstV_no h1)
    cases h2 : okL (texts a1) with
    | false =>
      have V2 := Lib.hid (lstV_no h2)
      clear ha hb h1 h2
      go_enter Try.func5, Try.ntmps5
      go_wp2_with fail
      refine (texts_any a0 _ _ w0 s0 t0).mono ?_
      rintro e x1 ⟨A1, n1, c1, rfl, o1, q1⟩
      have t2 := t1.on q1
      have u1 := Txts.own o1
      clear t1 t0 o1
      go_wp2_with fail
      refine (texts_any a1 _ _ w1 s1 t2).mono ?_
      rintro e x2 ⟨A2, n2, c2, rfl, o2, q2⟩
      have u2 := Txts.own o2
      have u3 := u1.on q2
      clear t2 o2 u1
      go_wp2_with fail
      refine (list_any _ _ _ l1 z1 u3).mono ?_
      rintro e x3 ⟨rfl, q3⟩
      have u4 := u2.on q3
      have u5 := u3.on q3
      clear u2 u3
      rw [V1.out]
      go_wp2_with fail
      refine (list_any _ _ _ l2 z2 u4).mono ?_
      rintro e x4 ⟨rfl, q4⟩
      have u6 := u4.on q4
      have u7 := u5.on q4
      clear u4 u5
      rw [V2.out]
      go_wp2_with fail
      refine (awake_any _).mono ?_
      rintro e x9 ⟨rfl, q9⟩
      go_wp2
      go_ret
      exact ⟨rfl, ((((q1.trans q2).trans q3).trans q4)).trans q9⟩
    | true =>
      have V2 := Lib.hid (lstV_yes h2)
      clear ha hb h1 h2
      go_enter Try.func5, Try.ntmps5
      go_wp2_with fail
      refine (texts_any a0 _ _ w0 s0 t0).mono ?_
      rintro e x1 ⟨A1, n1, c1, rfl, o1, q1⟩
      have t2 := t1.on q1
      have u1 := Txts.own o1
      clear t1 t0 o1
      go_wp2_with fail
      refine (texts_any a1 _ _ w1 s1 t2).mono ?_
      rintro e x2 ⟨A2, n2, c2, rfl, o2, q2⟩
      have u2 := Txts.own o2
      have u3 := u1.on q2
      clear t2 o2 u1
      go_wp2_with fail
      refine (list_any _ _ _ l1 z1 u3).mono ?_
      rintro e x3 ⟨rfl, q3⟩
      have u4 := u2.on q3
      have u5 := u3.on q3
      clear u2 u3
      rw [V1.out]
      go_wp2_with fail
      refine (list_any _ _ _ l2 z2 u4).mono ?_
      rintro e x4 ⟨rfl, q4⟩
      have u6 := u4.on q4
      have u7 := u5.on q4
      clear u4 u5
      rw [V2.out]
      go_wp2_with fail
      refine (awake_any _).mono ?_
      rintro e x9 ⟨rfl, q9⟩
      go_wp2
      go_ret
      exact ⟨rfl, ((((q1.trans q2).trans q3).trans q4)).trans q9⟩
  | true =>
    have V1 := Lib.hid (lstV_yes h1)
    cases h2 : okL (texts a1) with
    | false =>
      have V2 := Lib.hid (lstV_no h2)
      clear ha hb h1 h2
      go_enter Try.func5, Try.ntmps5
      go_wp2_with fail
      refine (texts_any a0 _ _ w0 s0 t0).mono ?_
      rintro e x1 ⟨A1, n1, c1, rfl, o1, q1⟩
      have t2 := t1.on q1
      have u1 := Txts.own o1
      clear t1 t0 o1
      go_wp2_with fail
      refine (texts_any a1 _ _ w1 s1 t2).mono ?_
      rintro e x2 ⟨A2, n2, c2, rfl, o2, q2⟩
      have u2 := Txts.own o2
      have u3 := u1.on q2
      clear t2 o2 u1
      go_wp2_with fail
      refine (list_any _ _ _ l1 z1 u3).mono ?_
      rintro e x3 ⟨rfl, q3⟩
      have u4 := u2.on q3
      have u5 := u3.on q3
      clear u2 u3
      rw [V1.out]
      go_wp2_with fail
      refine (list_any _ _ _ l2 z2 u4).mono ?_
      rintro e x4 ⟨rfl, q4⟩
      have u6 := u4.on q4
      have u7 := u5.on q4
      clear u4 u5
      rw [V2.out]
      go_wp2_with fail
      refine (awake_any _).mono ?_
      rintro e x9 ⟨rfl, q9⟩
      go_wp2
      go_ret
      exact ⟨rfl, ((((q1.trans q2).trans q3).trans q4)).trans q9⟩
    | true =>
      have V2 := Lib.hid (lstV_yes h2)
      have y1 := lst_size (l := texts a0) (by omega) S1.out
      have y2 := lst_size (l := texts a1) (by omega) S2.out
      have e1 := eq_texts (mk (lst (texts a0))) (mk (lst (texts a1)))
      by_cases hab : texts a0 = texts a1
      · have hd : decide (texts a0 = texts a1) = true := by simpa using hab
        have e2 : ((mk (lst (texts a0))).toList == (mk (lst (texts a1))).toList) = true := by rw [e1]; simp [hab]
        clear ha hb h1 h2 e1 hab
        go_enter Try.func5, Try.ntmps5
        go_wp2_with fail
        refine (texts_any a0 _ _ w0 s0 t0).mono ?_
        rintro e x1 ⟨A1, n1, c1, rfl, o1, q1⟩
        have t2 := t1.on q1
        have u1 := Txts.own o1
        clear t1 t0 o1
        go_wp2_with fail
        refine (texts_any a1 _ _ w1 s1 t2).mono ?_
        rintro e x2 ⟨A2, n2, c2, rfl, o2, q2⟩
        have u2 := Txts.own o2
        have u3 := u1.on q2
        clear t2 o2 u1
        go_wp2_with fail
        refine (list_any _ _ _ l1 z1 u3).mono ?_
        rintro e x3 ⟨rfl, q3⟩
        have u4 := u2.on q3
        have u5 := u3.on q3
        clear u2 u3
        rw [V1.out]
        go_wp2_with fail
        refine (list_any _ _ _ l2 z2 u4).mono ?_
        rintro e x4 ⟨rfl, q4⟩
        have u6 := u4.on q4
        have u7 := u5.on q4
        clear u4 u5
        rw [V2.out]
        go_wp2_with fail
        refine (same_any _ _ _ _ _ l1 l2 u7 u6).mono ?_
        rintro e x5 ⟨rfl, q5⟩
        rw [hd]
        go_wp2_with fail
        refine (awake_any _).mono ?_
        rintro e x9 ⟨rfl, q9⟩
        go_wp2
        go_ret
        exact ⟨rfl, ((((q1.trans q2).trans q3).trans q4).trans q5).trans q9⟩
      · have hd : decide (texts a0 = texts a1) = false := by simpa using hab
        have e2 : ((mk (lst (texts a0))).toList == (mk (lst (texts a1))).toList) = false := by rw [e1]; simpa using fun e => hab (lst_inj h1 h2 e)
        by_cases hlt : (mk (lst (texts a1))).size < (mk (lst (texts a0))).size
        · clear ha hb h1 h2 e1 hab
          go_enter Try.func5, Try.ntmps5
          go_wp2_with fail
          refine (texts_any a0 _ _ w0 s0 t0).mono ?_
          rintro e x1 ⟨A1, n1, c1, rfl, o1, q1⟩
          have t2 := t1.on q1
          have u1 := Txts.own o1
          clear t1 t0 o1
          go_wp2_with fail
          refine (texts_any a1 _ _ w1 s1 t2).mono ?_
          rintro e x2 ⟨A2, n2, c2, rfl, o2, q2⟩
          have u2 := Txts.own o2
          have u3 := u1.on q2
          clear t2 o2 u1
          go_wp2_with fail
          refine (list_any _ _ _ l1 z1 u3).mono ?_
          rintro e x3 ⟨rfl, q3⟩
          have u4 := u2.on q3
          have u5 := u3.on q3
          clear u2 u3
          rw [V1.out]
          go_wp2_with fail
          refine (list_any _ _ _ l2 z2 u4).mono ?_
          rintro e x4 ⟨rfl, q4⟩
          have u6 := u4.on q4
          have u7 := u5.on q4
          clear u4 u5
          rw [V2.out]
          go_wp2_with fail
          refine (same_any _ _ _ _ _ l1 l2 u7 u6).mono ?_
          rintro e x5 ⟨rfl, q5⟩
          rw [hd]
          go_wp2_with fail
          refine (awake_any _).mono ?_
          rintro e x9 ⟨rfl, q9⟩
          go_wp2
          go_ret
          exact ⟨rfl, ((((q1.trans q2).trans q3).trans q4).trans q5).trans q9⟩
        · have e3 : (((mk (lst (texts a1))).extract 0 (mk (lst (texts a0))).size).toList == (mk (lst (texts a0))).toList) = false := by rw [eq_texts]; simpa using fun e => hab (lst_head h1 h2 e)
          clear ha hb h1 h2 e1 hab
          go_enter Try.func5, Try.ntmps5
          go_wp2_with fail
          refine (texts_any a0 _ _ w0 s0 t0).mono ?_
          rintro e x1 ⟨A1, n1, c1, rfl, o1, q1⟩
          have t2 := t1.on q1
          have u1 := Txts.own o1
          clear t1 t0 o1
          go_wp2_with fail
          refine (texts_any a1 _ _ w1 s1 t2).mono ?_
          rintro e x2 ⟨A2, n2, c2, rfl, o2, q2⟩
          have u2 := Txts.own o2
          have u3 := u1.on q2
          clear t2 o2 u1
          go_wp2_with fail
          refine (list_any _ _ _ l1 z1 u3).mono ?_
          rintro e x3 ⟨rfl, q3⟩
          have u4 := u2.on q3
          have u5 := u3.on q3
          clear u2 u3
          rw [V1.out]
          go_wp2_with fail
          refine (list_any _ _ _ l2 z2 u4).mono ?_
          rintro e x4 ⟨rfl, q4⟩
          have u6 := u4.on q4
          have u7 := u5.on q4
          clear u4 u5
          rw [V2.out]
          go_wp2_with fail
          refine (same_any _ _ _ _ _ l1 l2 u7 u6).mono ?_
          rintro e x5 ⟨rfl, q5⟩
          rw [hd]
          go_wp2_with fail
          refine (awake_any _).mono ?_
          rintro e x9 ⟨rfl, q9⟩
          go_wp2
          go_ret
          exact ⟨rfl, ((((q1.trans q2).trans q3).trans q4).trans q5).trans q9⟩

set_option maxRecDepth 100000 in
theorem lifted (os : Os) (started : os.Started) (H : Type) (enc : TypeId × Value → H) :
    ReturnsInHanded {} Try.checked os 5 .any (Rows.wireApartSpec.pre6 enc Try.prog Try.f5 Rows.wireApartRow.domain false) (Rows.wireApartSpec.post enc Try.prog Try.f5 false true false false) := by
  refine returnsInHanded_of_change (C := Try.checked) own started (by kernel_rfl) Try.func5
    (ChangeSpec.witness6 (enc := enc) (C := Try.checked) false ⟨#[], #[.slice none 0 0, .slice none 0 0], []⟩ 8 (by kernel_rfl) (by kernel_rfl) (by kernel_rfl) (by kernel_rfl)) ?_
  intro W base args ds gs before hval0 hW hcnd _
  have hval : ∀ (j : Nat) t v, Try.f5.params[j]? = some t → args[j]? = some v → Value.okWide Try.prog W .any base t v := hval0
  have hW' := hW
  obtain ⟨p, q, hA0, hV, rfl, hfz, hnd⟩ := hW
  have hA : DataW.TrodAll enc Try.prog W 0 (fun _ => true) true Try.f5.params.toList args.toList ds p := hA0
  rw [Try.params5] at hA hval
  obtain ⟨v0, vs0, d0, ds0, p0, q0, hargs, rfl, rfl, h0, r0⟩ := trodAll_cons hA
  obtain ⟨v1, vs1, d1, ds1, p1, q1, rfl, rfl, rfl, h1, r1⟩ := trodAll_cons r0
  obtain ⟨rfl, rfl, rfl⟩ := trodAll_nil r1
  obtain rfl : args = #[v0, v1] := by cases args; simp_all
  obtain ⟨rfl, rfl⟩ := trodVars_none hV
  clear hA0 hval0
  simp only [List.append_nil] at hW'
  have hlt : ∀ x ∈ p0 ++ p1, x.block < W.heap.size := fun x hx => by simpa using hW'.lt x (by simpa using hx)
  obtain ⟨a0, t0, w0, s0⟩ := open_txts (hval 0 23 v0 rfl rfl) h0
  obtain ⟨a1, t1, w1, s1⟩ := open_txts (hval 1 23 v1 rfl rfl) h1
  refine (walk a0 v0 a1 v1 W t0 w0 s0 t1 w1 s1).mono fun e W' ⟨he, bel⟩ => ?_
  subst he
  refine ⟨_, rfl, _, _, _, [], _, [], hW', trodAll_mk1 (shut_bool Try.underlying4 _), (trodAll_cons_mk (Below.trod laid (by kernel_rfl) (of_decide_eq_true (by kernel_rfl)) h0 bel (fun x hx => hlt x (by simp [hx]))) (trodAll_cons_mk (Below.trod laid (by kernel_rfl) (of_decide_eq_true (by kernel_rfl)) h1 bel (fun x hx => hlt x (by simp [hx]))) trodAll_mk0)), rfl, Below.frame bel _, fun h => by cases h⟩

theorem over : Rows.wireApartRow.holds Try.pinned (OpenSpec.ofChange Rows.wireApartSpec) :=
  OpenClaim.holds_of_wide 5 Try.f5 rfl rfl rfl rfl rfl rfl rfl ⟨rfl, rfl, rfl, rfl, rfl⟩ rfl rfl rfl rfl rfl (by kernel_rfl) Try.func5 (by kernel_rfl)
    (of_decide_eq_true (by kernel_rfl)) (by unfold Func.isWrapper; first | (rw [if_pos (by decide +kernel)]; kernel_rfl) | (rw [if_neg (by decide +kernel)]; exact ⟨rfl, rfl⟩))
    (fun os started H enc _ => lifted os started H enc)

theorem proved : Rows.WireApartSaid := over
#print axioms proved
end Go.Proofs.Ytneclkkbgonkcaa.wireApart
