/-
  Proved: whatever key and prefix NameBounds is called with, it returns true and leaves what it was given as it was. No condition.
-/
import Derived.Test.YtdjmiiibhcnokaaAwake
import Derived.Test.YtdjmiiibhcnokaaPlainAfter
import Derived.OpenShut
import Derived.ShutString
import Derived.ChangeOld
namespace Go.Proofs.Ytdjmiiibhcnokaa.nameBounds
open Go.ChangeShapes Go.WideShapes Go.ChangeAt Go.RowKit
open Go.ChangeMaps (open_string shut_string)
set_option linter.unusedVariables false

theorem less_not : ∀ (a b : List UInt8), Op.bytesLess a b = true → Op.bytesLess b a = false ∧ (b == a) = false := by
  intro a
  induction a with
  | nil => intro b h; cases b <;> simp [Op.bytesLess] at h ⊢
  | cons x r ih =>
    intro b h
    cases b with
    | nil => simp [Op.bytesLess] at h
    | cons y m =>
      simp only [Op.bytesLess, Bool.or_eq_true, decide_eq_true_eq, Bool.and_eq_true, beq_iff_eq] at h
      rcases h with h | ⟨rfl, h⟩
      · have n1 : ¬ y < x := by rw [UInt8.lt_iff_toNat_lt] at *; omega
        have n2 : ¬ y = x := fun e => by subst e; rw [UInt8.lt_iff_toNat_lt] at h; omega
        simp [Op.bytesLess, n1, n2]
      · obtain ⟨h1, h2⟩ := ih m h
        have n1 : ¬ x < x := by simp
        simp only [beq_eq_false_iff_ne, ne_eq] at h2
        simp [Op.bytesLess, n1, h1, h2]

theorem bounds (k p : ByteArray) (hk : hasO 1 60 ko k = true) (hp : hasO 0 60 ko p = true) :
    (!(Op.bytesLess k.toList p.toList) && ((afterO p).toList.isEmpty || Op.bytesLess k.toList (afterO p).toList)) = underO k p ∧
    ((afterO p).toList.isEmpty = false → Op.bytesLess (afterO p).toList p.toList = false ∧ ((afterO p).toList == p.toList) = false) := by
  have lk := (ko_le (hasO_all hk)).1
  have lp := (ko_le (hasO_all hp)).1
  have h := aft_bounds p.toList k.toList lp lk
  rw [underO_list, afterO_list hp, ← h]
  cases ha : aft p.toList with
  | none => simp
  | some a =>
    obtain ⟨h1, h2, h3, h4, h5⟩ := aft_facts _ _ lp ha
    have e : a.isEmpty = false := by cases a with
      | nil => exact absurd rfl h4
      | cons _ _ => rfl
    simp only [Option.getD_some, e, Bool.false_or, true_and]
    intro _
    exact less_not _ _ h1

set_option maxHeartbeats 1000000 in
theorem walk (a0 a1 : ByteArray) (w0 : a0.size ≤ maxLen) (w1 : a1.size ≤ maxLen) (w : World) :
    Calls Try.prog 6 #[.string a0, .string a1] w fun e w' => e = .returned (.bool true) ∧ Below w.heap.size w w' := by
  have s0 : (few a0).size ≤ 1000 := Nat.le_trans (few_size _) (by omega)
  have s1 : (few a1).size ≤ 1000 := Nat.le_trans (few_size _) (by omega)
  cases h1 : hasO 1 60 ko (few a0) with
  | false =>
    go_enter Try.func6, Try.ntmps6
    go_wp2_with fail
    refine (few_any _ _ w0).mono ?_
    rintro e x1 ⟨rfl, rfl⟩
    go_wp2_with fail
    refine (few_any _ _ w1).mono ?_
    rintro e x2 ⟨rfl, rfl⟩
    go_wp2_with fail
    refine (key_any _ _ s0).mono ?_
    rintro e x3 ⟨rfl, q1⟩
    go_wp2_with fail
    refine (awake_any _).mono ?_
    rintro e x4 ⟨rfl, q2⟩
    go_wp2
    go_ret
    exact ⟨rfl, q1.trans q2⟩
  | true =>
    cases h2 : hasO 0 60 ko (few a1) with
    | false =>
      go_enter Try.func6, Try.ntmps6
      go_wp2_with fail
      refine (few_any _ _ w0).mono ?_
      rintro e x1 ⟨rfl, rfl⟩
      go_wp2_with fail
      refine (few_any _ _ w1).mono ?_
      rintro e x2 ⟨rfl, rfl⟩
      go_wp2_with fail
      refine (key_any _ _ s0).mono ?_
      rintro e x3 ⟨rfl, q1⟩
      go_wp2_with fail
      refine (pref_any _ _ s1).mono ?_
      rintro e x4 ⟨rfl, q2⟩
      go_wp2_with fail
      refine (awake_any _).mono ?_
      rintro e x5 ⟨rfl, q3⟩
      go_wp2
      go_ret
      exact ⟨rfl, (q1.trans q2).trans q3⟩
    | true =>
      obtain ⟨hb, hc⟩ := bounds _ _ h1 h2
      have HB := Lib.hid hb
      have HC := Lib.hid hc
      clear hb hc
      cases hE : (afterO (few a1)).toList.isEmpty with
      | true =>
        have hN : (afterO (few a1)).toList = [] := by simpa using hE
        cases hL : Op.bytesLess (few a0).toList (few a1).toList
        all_goals
          first
            | (have hU : underO (few a0) (few a1) = true := by rw [← HB.out, hL, hE]; rfl)
            | (have hU : underO (few a0) (few a1) = false := by rw [← HB.out, hL, hE]; rfl)
          go_enter Try.func6, Try.ntmps6
          go_wp2_with fail
          refine (few_any _ _ w0).mono ?_
          rintro e x1 ⟨rfl, rfl⟩
          go_wp2_with fail
          refine (few_any _ _ w1).mono ?_
          rintro e x2 ⟨rfl, rfl⟩
          go_wp2_with fail
          refine (key_any _ _ s0).mono ?_
          rintro e x3 ⟨rfl, q1⟩
          go_wp2_with fail
          refine (pref_any _ _ s1).mono ?_
          rintro e x4 ⟨rfl, q2⟩
          go_wp2_with fail
          refine (after_any _ _ s1).mono ?_
          rintro e x5 ⟨rfl, q3⟩
          go_wp2_with fail
          refine (under_any _ _ _ s0 s1).mono ?_
          rintro e x6 ⟨rfl, rfl⟩
          go_wp2_with fail
          refine (awake_any _).mono ?_
          rintro e x7 ⟨rfl, q4⟩
          go_wp2
          go_ret
          exact ⟨rfl, ((q1.trans q2).trans q3).trans q4⟩
      | false =>
        have hN : ¬ (afterO (few a1)).toList = [] := by simpa using hE
        obtain ⟨hc1, hc2⟩ := HC.out hE
        cases hL : Op.bytesLess (few a0).toList (few a1).toList <;> cases hM : Op.bytesLess (few a0).toList (afterO (few a1)).toList
        all_goals
          first
            | (have hU : underO (few a0) (few a1) = true := by rw [← HB.out, hL, hE, hM]; rfl)
            | (have hU : underO (few a0) (few a1) = false := by rw [← HB.out, hL, hE, hM]; rfl)
          go_enter Try.func6, Try.ntmps6
          go_wp2_with fail
          refine (few_any _ _ w0).mono ?_
          rintro e x1 ⟨rfl, rfl⟩
          go_wp2_with fail
          refine (few_any _ _ w1).mono ?_
          rintro e x2 ⟨rfl, rfl⟩
          go_wp2_with fail
          refine (key_any _ _ s0).mono ?_
          rintro e x3 ⟨rfl, q1⟩
          go_wp2_with fail
          refine (pref_any _ _ s1).mono ?_
          rintro e x4 ⟨rfl, q2⟩
          go_wp2_with fail
          refine (after_any _ _ s1).mono ?_
          rintro e x5 ⟨rfl, q3⟩
          go_wp2_with fail
          refine (under_any _ _ _ s0 s1).mono ?_
          rintro e x6 ⟨rfl, rfl⟩
          go_wp2_with fail
          refine (awake_any _).mono ?_
          rintro e x7 ⟨rfl, q4⟩
          go_wp2
          go_ret
          exact ⟨rfl, ((q1.trans q2).trans q3).trans q4⟩
theorem own : ownKnob Try.prog.godebug = none := by kernel_rfl

set_option maxRecDepth 100000 in
theorem lifted (os : Os) (started : os.Started) (H : Type) (enc : TypeId × Value → H) :
    ReturnsInHanded {} Try.checked os 6 .any (Rows.nameBoundsSpec.pre6 enc Try.prog Try.f6 Rows.nameBoundsRow.domain false) (Rows.nameBoundsSpec.post enc Try.prog Try.f6 false true false false) := by
  refine returnsInHanded_of_change (C := Try.checked) own started (by kernel_rfl) Try.func6
    (ChangeSpec.witness6 (enc := enc) (C := Try.checked) false ⟨#[], #[.string ByteArray.empty, .string ByteArray.empty], []⟩ 8 (by kernel_rfl) (by kernel_rfl) (by kernel_rfl) (by kernel_rfl)) ?_
  intro W base args ds gs before hval0 hW hcnd _
  have hval : ∀ (j : Nat) t v, Try.f6.params[j]? = some t → args[j]? = some v → Value.okWide Try.prog W .any base t v := hval0
  have hW' := hW
  obtain ⟨p, q, hA0, hV, rfl, hfz, hnd⟩ := hW
  have hA : DataW.TrodAll enc Try.prog W 0 (fun _ => true) true Try.f6.params.toList args.toList ds p := hA0
  rw [Try.params6] at hA hval
  obtain ⟨v0, vs0, d0, ds0, p0, q0, hargs, rfl, rfl, h0, r0⟩ := trodAll_cons hA
  obtain ⟨v1, vs1, d1, ds1, p1, q1, rfl, rfl, rfl, h1, r1⟩ := trodAll_cons r0
  obtain ⟨rfl, rfl, rfl⟩ := trodAll_nil r1
  obtain rfl : args = #[v0, v1] := by cases args; simp_all
  obtain ⟨rfl, rfl⟩ := trodVars_none hV
  obtain ⟨a0, rfl, rfl, rfl, w0⟩ := open_string Try.underlying9 (hval 0 9 v0 rfl rfl) h0
  obtain ⟨a1, rfl, rfl, rfl, w1⟩ := open_string Try.underlying9 (hval 1 9 v1 rfl rfl) h1
  clear hA0 hval0
  simp only [List.append_nil] at hW'
  refine (walk a0 a1 w0 w1 W).mono fun e W' ⟨he, bel⟩ => ?_
  subst he
  exact ⟨_, rfl, _, _, _, [], _, [], hW', trodAll_mk1 (shut_bool Try.underlying4 _), (trodAll_cons_mk (shut_string Try.underlying9 w0) (trodAll_cons_mk (shut_string Try.underlying9 w1) trodAll_mk0)), rfl, bel.frame _, fun h => by cases h⟩

theorem over : Rows.nameBoundsRow.holds Try.pinned (OpenSpec.ofChange Rows.nameBoundsSpec) :=
  OpenClaim.holds_of_wide 6 Try.f6 rfl rfl rfl rfl rfl rfl rfl ⟨rfl, rfl, rfl, rfl, rfl⟩ rfl rfl rfl rfl rfl (by kernel_rfl) Try.func6 (by kernel_rfl)
    (of_decide_eq_true (by kernel_rfl)) (by unfold Func.isWrapper; first | (rw [if_pos (by decide +kernel)]; kernel_rfl) | (rw [if_neg (by decide +kernel)]; exact ⟨rfl, rfl⟩))
    (fun os started H enc _ => lifted os started H enc)

theorem proved : Rows.NameBoundsSaid := over
#print axioms proved
end Go.Proofs.Ytdjmiiibhcnokaa.nameBounds
