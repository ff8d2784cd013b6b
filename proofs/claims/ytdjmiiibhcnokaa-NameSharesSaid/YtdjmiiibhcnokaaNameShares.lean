/-
  Proved: whatever key, prefix, delimiter and more NameShares is called with, it returns true and leaves what it was given as it was. No condition.
-/
import Derived.Test.YtdjmiiibhcnokaaAwake
import Derived.Test.YtdjmiiibhcnokaaPlainGroup
import Derived.OpenShut
import Derived.ShutString
import Derived.ChangeOld
import Derived.Lib.SmallJoins
namespace Go.Proofs.Ytdjmiiibhcnokaa.nameShares
open Go.ChangeShapes Go.WideShapes Go.ChangeAt Go.RowKit
open Go.ChangeMaps (open_string shut_string)
set_option linter.unusedVariables false
attribute [local irreducible] groupO hasO underO few

theorem few_get (s : ByteArray) (w : World) (n : Nat) (hs : s.size ≤ maxLen) :
    Calls Try.prog 10 #[.string s] (w.drewN n) fun e w'' => e = .returned (.string (few s)) ∧ ∃ m, w'' = w.drewN m :=
  quiet_left (few_any s _ hs)

set_option maxHeartbeats 4000000 in
set_option maxRecDepth 100000 in
theorem walk (b0 b1 b2 b3 : ByteArray) (w0 : b0.size ≤ maxLen) (w1 : b1.size ≤ maxLen) (w2 : b2.size ≤ maxLen) (w3 : b3.size ≤ maxLen) (w : World) :
    Calls Try.prog 5 #[.agg #[.string b0, .string b1, .string b2, .string b3]] w fun e w' => e = .returned (.bool true) ∧ Below w.heap.size w w' := by
  have s0 : (few b0).size ≤ 80 := few_size _
  have s1 : (few b1).size ≤ 80 := few_size _
  have s2 : (few b2).size ≤ 80 := few_size _
  have s3 : (few b3).size ≤ 80 := few_size _
  have hq : ∀ o, Q w (w.alloc o) := fun o => (Q.refl w).alloc o
  have HQ := Lib.hid hq
  clear hq
  have W0 := Lib.hid w0
  have W1 := Lib.hid w1
  have W2 := Lib.hid w2
  have W3 := Lib.hid w3
  clear w0 w1 w2 w3
  obtain ⟨⟨g, b⟩, hG⟩ : ∃ x, groupO (few b0) (few b1) (few b2) = x := ⟨_, rfl⟩
  cases b with
  | false =>
    have hg := group_false hG
    subst hg
    have HG := Lib.hid hG
    clear hG
    go_enter Try.func5, Try.ntmps5
    go_wp2_with fail
    go_quiet ((exact few_get _ _ _ (by first | exact W0.out | exact W1.out | exact W2.out | exact W3.out)))
    go_wp2_with fail
    refine (group_any _ _ _ _ (by omega) (by omega) (by omega)).mono ?_
    rintro e x1 ⟨rfl, q1⟩
    rw [HG.out]
    go_wp2_with fail
    refine (awake_any _).mono ?_
    rintro e x2 ⟨rfl, q2⟩
    go_wp2
    go_ret
    exact ⟨rfl, ((((HQ.out _).drewN _)).trans q1).trans q2⟩
  | true =>
    obtain ⟨f1, f2, f3, f4, f5, f6, f7⟩ := share_facts hG
    have hK1 := fun (h : hasO 1 60 ko (g ++ few b3) = true) => group_shares hG h (under_append g (few b3))
    have HK1 := Lib.hid hK1
    have HG := Lib.hid hG
    have F6 := Lib.hid f6
    have F7 := Lib.hid f7
    clear hG f6 f7 hK1
    obtain ⟨n1, n2⟩ := ne_nil (s := g) (by omega)
    have sg : (g ++ few b3).size ≤ 1000 := by rw [ByteArray.size_append]; omega
    have SG := Lib.hid sg
    clear sg
    have i1 : (0 : Int) ≤ (g.size : Int) - 1 := by omega
    have i2 : (g.size : Int) - 1 ≤ g.size := by omega
    go_enter Try.func5, Try.ntmps5
    go_wp2_with fail
    go_quiet ((exact few_get _ _ _ (by first | exact W0.out | exact W1.out | exact W2.out | exact W3.out)))
    go_wp2_with fail
    refine (group_any _ _ _ _ (by omega) (by omega) (by omega)).mono ?_
    rintro e x1 ⟨rfl, q1⟩
    rw [HG.out]
    go_wp2_with fail
    refine (under_any _ _ _ (by omega) (by omega)).mono ?_
    rintro e x2 ⟨rfl, rfl⟩
    go_wp2_with fail
    refine (under_any _ _ _ (by omega) (by omega)).mono ?_
    rintro e x3 ⟨rfl, rfl⟩
    go_wp2_with fail
    go_loop [9] (fun i => ∃ n : Nat, (few b1).size ≤ n ∧ n + 1 ≤ g.size ∧ i = .int .i64 n) (fun i => g.size - (intOf i).toNat)
    case atStart => exact ⟨(few b1).size, Nat.le_refl _, by omega, rfl⟩
    case round =>
      obtain ⟨n, hn1, hn2, rfl⟩ := hrel
      by_cases hlt : n + 1 < g.size
      · have hF := F6.out n hn1 hlt
        go_wp2_with fail
        go_round
        case rel => exact ⟨n + 1, by omega, by omega, by go_num⟩
        case measure => simp [intOf]; omega
      · cases hK : hasO 1 60 ko (g ++ few b3) with
        | false =>
          go_wp2_with fail
          refine (group_any _ _ _ _ (by omega) (by omega) (by omega)).mono ?_
          rintro e x4 ⟨rfl, q4⟩
          rw [F7.out]
          go_wp2_with fail
          refine (key_any _ _ SG.out).mono ?_
          rintro e x5 ⟨rfl, q5⟩
          go_wp2_with fail
          refine (awake_any _).mono ?_
          rintro e x6 ⟨rfl, q6⟩
          go_wp2
          go_ret
          exact ⟨rfl, (((((HQ.out _).drewN _).trans q1).trans q4).trans q5).trans q6⟩
        | true =>
          have H7 := Lib.hid (HK1.out hK)
          go_wp2_with fail
          refine (group_any _ _ _ _ (by omega) (by omega) (by omega)).mono ?_
          rintro e x4 ⟨rfl, q4⟩
          rw [F7.out]
          go_wp2_with fail
          refine (key_any _ _ SG.out).mono ?_
          rintro e x5 ⟨rfl, q5⟩
          go_wp2_with fail
          refine (group_any _ _ _ _ SG.out (by omega) (by omega)).mono ?_
          rintro e x6 ⟨rfl, q6⟩
          rw [H7.out]
          go_wp2_with fail
          refine (awake_any _).mono ?_
          rintro e x7 ⟨rfl, q7⟩
          go_wp2
          go_ret
          exact ⟨rfl, ((((((HQ.out _).drewN _).trans q1).trans q4).trans q5).trans q6).trans q7⟩

theorem str_trod {H : Type} {enc : TypeId × Value → H} {W : World} {base : Nat} {spare : Nat → Bool} {held : Bool} {s : ByteArray} (h : s.size ≤ maxLen) :
    DataW.trod enc Try.prog W base spare held 1 9 [.string s] = some (.lit (.string s.data.toList), []) := by
  simp [DataW.trod, Try.underlying9, h]

theorem own : ownKnob Try.prog.godebug = none := by kernel_rfl

set_option maxRecDepth 100000 in
theorem lifted (os : Os) (started : os.Started) (H : Type) (enc : TypeId × Value → H) :
    ReturnsInHanded {} Try.checked os 5 .any (Rows.nameSharesSpec.pre6 enc Try.prog Try.f5 Rows.nameSharesRow.domain false) (Rows.nameSharesSpec.post enc Try.prog Try.f5 false true false false) := by
  refine returnsInHanded_of_change (C := Try.checked) own started (by kernel_rfl) Try.func5
    (ChangeSpec.witness6 (enc := enc) (C := Try.checked) false ⟨#[], #[.agg #[.string ByteArray.empty, .string ByteArray.empty, .string ByteArray.empty, .string ByteArray.empty]], []⟩ 8 (by kernel_rfl) (by kernel_rfl) (by kernel_rfl) (by kernel_rfl)) ?_
  intro W base args ds gs before hval0 hW hcnd _
  have hval : ∀ (j : Nat) t v, Try.f5.params[j]? = some t → args[j]? = some v → Value.okWide Try.prog W .any base t v := hval0
  have hW' := hW
  obtain ⟨p, q, hA0, hV, rfl, hfz, hnd⟩ := hW
  have hA : DataW.TrodAll enc Try.prog W 0 (fun _ => true) true Try.f5.params.toList args.toList ds p := hA0
  rw [Try.params5] at hA hval
  obtain ⟨v0, vs0, d0, ds0, p0, q0, hargs, rfl, rfl, h0, r0⟩ := trodAll_cons hA
  obtain ⟨rfl, rfl, rfl⟩ := trodAll_nil r0
  obtain rfl : args = #[v0] := by cases args; simp_all
  obtain ⟨rfl, rfl⟩ := trodVars_none hV
  obtain ⟨c0, c1, c2, c3, y0, y1, y2, y3, mm, rfl, rfl, rfl, hy0, hy1, hy2, hy3⟩ := Joins.open_agg4 Try.underlying30 (by kernel_rfl) (by kernel_rfl) (hval 0 30 v0 rfl rfl) h0
  obtain ⟨b0, e0, rfl, w0_0⟩ := DataW.trod_string Try.underlying9 hy0
  obtain ⟨b1, e1, rfl, w0_1⟩ := DataW.trod_string Try.underlying9 hy1
  obtain ⟨b2, e2, rfl, w0_2⟩ := DataW.trod_string Try.underlying9 hy2
  obtain ⟨b3, e3, rfl, w0_3⟩ := DataW.trod_string Try.underlying9 hy3
  simp at e0 e1 e2 e3
  subst e0 e1 e2 e3
  clear hA0 hval0
  simp only [List.append_nil] at hW'
  refine (walk b0 b1 b2 b3 w0_0 w0_1 w0_2 w0_3 W).mono fun e W' ⟨he, bel⟩ => ?_
  subst he
  exact ⟨_, rfl, _, _, _, [], _, [], hW', trodAll_mk1 (shut_bool Try.underlying4 _), (trodAll_cons_mk (Joins.shut_agg4 (y0 := (.lit (.string b0.data.toList), [])) (y1 := (.lit (.string b1.data.toList), [])) (y2 := (.lit (.string b2.data.toList), [])) (y3 := (.lit (.string b3.data.toList), [])) Try.underlying30 (by kernel_rfl) (by kernel_rfl) ⟨1, str_trod w0_0⟩ ⟨1, str_trod w0_1⟩ ⟨1, str_trod w0_2⟩ ⟨1, str_trod w0_3⟩) trodAll_mk0), rfl, bel.frame _, fun h => by cases h⟩

theorem over : Rows.nameSharesRow.holds Try.pinned (OpenSpec.ofChange Rows.nameSharesSpec) :=
  OpenClaim.holds_of_wide 5 Try.f5 rfl rfl rfl rfl rfl rfl rfl ⟨rfl, rfl, rfl, rfl, rfl⟩ rfl rfl rfl rfl rfl (by kernel_rfl) Try.func5 (by kernel_rfl)
    (of_decide_eq_true (by kernel_rfl)) (by unfold Func.isWrapper; first | (rw [if_pos (by decide +kernel)]; kernel_rfl) | (rw [if_neg (by decide +kernel)]; exact ⟨rfl, rfl⟩))
    (fun os started H enc _ => lifted os started H enc)

theorem proved : Rows.NameSharesSaid := over
#print axioms proved
end Go.Proofs.Ytdjmiiibhcnokaa.nameShares
