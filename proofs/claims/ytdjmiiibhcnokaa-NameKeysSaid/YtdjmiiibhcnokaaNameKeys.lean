/-
  Proved: whatever text and number NameKeys is called with, it returns true and leaves what it was given as it was. No condition.
-/
import Derived.Test.YtdjmiiibhcnokaaAwake
import Derived.Test.YtdjmiiibhcnokaaPlainAfter
import Derived.OpenShut
import Derived.ShutString
import Derived.ChangeOld
namespace Go.Proofs.Ytdjmiiibhcnokaa.nameKeys
open Go.ChangeShapes Go.WideShapes Go.ChangeAt Go.RowKit
open Go.ChangeMaps (open_string shut_string)
set_option linter.unusedVariables false

theorem length_toList (s : ByteArray) : s.toList.length = s.size := by rw [ByteArray.toList_eq]; exact Array.length_toList
theorem pref_of_key {s : ByteArray} (h : hasO 1 60 ko s = true) : hasO 0 60 ko s = true := by
  unfold hasO at *; simp only [Bool.and_eq_true, decide_eq_true_eq] at *; exact ⟨⟨by omega, h.1.2⟩, h.2⟩
theorem no_pref {s : ByteArray} (h : hasO 1 60 ko s = false) (h0 : 0 < s.size) : hasO 0 60 ko s = false := by
  cases e : hasO 0 60 ko s with
  | false => rfl
  | true =>
    have : hasO 1 60 ko s = true := by
      unfold hasO at e ⊢; simp only [Bool.and_eq_true, decide_eq_true_eq] at e ⊢; exact ⟨⟨by omega, e.1.2⟩, e.2⟩
    rw [h] at this; cases this
theorem nil_pref {s : ByteArray} (h0 : s.size = 0) : hasO 0 60 ko s = true := by
  have hl : s.data.toList = [] := by rw [← ByteArray.toList_eq]; exact is_nil h0
  unfold hasO allO; rw [hl]; simp; omega
theorem cut_pref {s : ByteArray} (h : hasO 0 60 ko s = true) (j : Nat) : hasO 0 60 ko (s.extract 0 j) = true := by
  unfold hasO allO at *
  simp only [Bool.and_eq_true, decide_eq_true_eq, List.all_eq_true] at *
  refine ⟨⟨by omega, by simp; omega⟩, ?_⟩
  intro c hc
  refine h.2 c ?_
  have e : (s.extract 0 j).data.toList = s.data.toList.take j := by simp
  rw [e] at hc
  exact List.mem_of_mem_take hc
theorem cut_under (s : ByteArray) (j : Nat) : underO s (s.extract 0 j) = true := by
  rw [underO_list, List.isPrefixOf_iff_prefix]
  have e : (s.extract 0 j).toList = s.toList.take j := by rw [ByteArray.toList_eq, ByteArray.toList_eq]; simp
  rw [e]; exact List.take_prefix ..

theorem after_facts {s : ByteArray} (h : hasO 0 60 ko s = true) :
    hasO 0 60 ko (afterO s) = true ∧ (afterO s).size ≤ s.size ∧ ((afterO s).toList = [] ∨ (¬ (afterO s).toList = [] ∧ underO (afterO s) s = false)) := by
  obtain ⟨l1, l2⟩ := ko_le (hasO_all h)
  have hl := afterO_list h
  have hz := hasO_size h
  rw [underO_list, hl]
  have hsz : (afterO s).size = ((aft s.toList).getD []).length := by rw [← hl, length_toList]
  cases ha : aft s.toList with
  | none =>
    rw [ha] at hsz hl
    have hs0 : (afterO s).size = 0 := hsz
    exact ⟨nil_pref hs0, by omega, .inl rfl⟩
  | some a =>
    rw [ha] at hsz hl
    obtain ⟨h1, h2, h3, h4, h5⟩ := aft_facts _ _ l1 ha
    simp only [Option.getD_some] at *
    rw [length_toList] at h3
    refine ⟨?_, by omega, .inr ⟨h4, h2⟩⟩
    unfold hasO allO
    rw [← ByteArray.toList_eq, hl]
    simp only [Bool.and_eq_true, decide_eq_true_eq, List.all_eq_true]
    refine ⟨⟨by omega, by omega⟩, fun c hc => ?_⟩
    have := h5 l2 c hc
    simp [ko]; omega

set_option maxHeartbeats 1000000 in
theorem walk (a0 : ByteArray) (a1 : Int) (w0 : a0.size ≤ maxLen) (w1 : (Lit.int .u8 a1).wf = true) (w : World) :
    Calls Try.prog 7 #[.string a0, .int .u8 a1] w fun e w' => e = .returned (.bool true) ∧ Below w.heap.size w w' := by
  have hx : 0 ≤ a1 ∧ a1 ≤ 255 := by simpa [Lit.wf, IntKind.min, IntKind.max, IntKind.signed, IntKind.bits] using w1
  obtain ⟨hx0, hx1⟩ := hx
  have s80 : (few a0).size ≤ 80 := few_size _
  have s0 : (few a0).size ≤ 1000 := by omega
  cases h1 : hasO 1 60 ko (few a0) with
  | false =>
    by_cases hz : (few a0).size = 0
    · have hp := nil_pref hz
      have hn := is_nil hz
      clear hz
      go_enter Try.func7, Try.ntmps7
      go_wp2_with fail
      refine (few_any _ _ w0).mono ?_
      rintro e x1 ⟨rfl, rfl⟩
      go_wp2_with fail
      refine (key_any _ _ s0).mono ?_
      rintro e x2 ⟨rfl, q1⟩
      go_wp2_with fail
      refine (pref_any _ _ s0).mono ?_
      rintro e x3 ⟨rfl, q2⟩
      go_wp2_with fail
      refine (awake_any _).mono ?_
      rintro e x4 ⟨rfl, q3⟩
      go_wp2
      go_ret
      exact ⟨rfl, (q1.trans q2).trans q3⟩
    · have hp := no_pref h1 (by omega)
      obtain ⟨n1, n2⟩ := ne_nil (s := few a0) (by omega)
      go_enter Try.func7, Try.ntmps7
      go_wp2_with fail
      refine (few_any _ _ w0).mono ?_
      rintro e x1 ⟨rfl, rfl⟩
      go_wp2_with fail
      refine (key_any _ _ s0).mono ?_
      rintro e x2 ⟨rfl, q1⟩
      go_wp2_with fail
      refine (pref_any _ _ s0).mono ?_
      rintro e x3 ⟨rfl, q2⟩
      go_wp2_with fail
      refine (key_any _ _ s0).mono ?_
      rintro e x4 ⟨rfl, q3⟩
      go_wp2_with fail
      refine (awake_any _).mono ?_
      rintro e x5 ⟨rfl, q4⟩
      go_wp2
      go_ret
      exact ⟨rfl, ((q1.trans q2).trans q3).trans q4⟩
  | true =>
    have hp := pref_of_key h1
    have hcp := cut_pref hp
    have hcu := cut_under (few a0)
    obtain ⟨f1, f2, f3⟩ := after_facts hp
    have f4 : (afterO (few a0)).size ≤ 1000 := by omega
    have m0 : 0 ≤ a1 % (((few a0).size : Int) + 1) := Int.emod_nonneg _ (by omega)
    have m1 : a1 % (((few a0).size : Int) + 1) ≤ (few a0).size := by have := Int.emod_lt_of_pos a1 (b := ((few a0).size : Int) + 1) (by omega); omega
    have s2 : ((few a0).extract 0 (a1 % (((few a0).size : Int) + 1)).toNat).size ≤ 1000 := by simp; omega
    have S2 := Lib.hid s2
    clear s2
    rcases f3 with f3 | ⟨f3, f5⟩
    · go_enter Try.func7, Try.ntmps7
      go_wp2_with fail
      refine (few_any _ _ w0).mono ?_
      rintro e x1 ⟨rfl, rfl⟩
      go_wp2_with fail
      refine (key_any _ _ s0).mono ?_
      rintro e x2 ⟨rfl, q1⟩
      go_wp2_with fail
      refine (after_any _ _ s0).mono ?_
      rintro e x3 ⟨rfl, q2⟩
      go_wp2_with fail
      refine (pref_any _ _ s0).mono ?_
      rintro e x4 ⟨rfl, q3⟩
      go_wp2_with fail
      refine (pref_any _ _ S2.out).mono ?_
      rintro e x5 ⟨rfl, q4⟩
      go_wp2_with fail
      refine (under_any _ _ _ s0 S2.out).mono ?_
      rintro e x6 ⟨rfl, rfl⟩
      go_wp2_with fail
      refine (pref_any _ _ f4).mono ?_
      rintro e x7 ⟨rfl, q5⟩
      go_wp2_with fail
      refine (awake_any _).mono ?_
      rintro e x8 ⟨rfl, q6⟩
      go_wp2
      go_ret
      exact ⟨rfl, ((((q1.trans q2).trans q3).trans q4).trans q5).trans q6⟩
    · have f6 : (afterO (few a0)).toList.isEmpty = false := by simpa using f3
      go_enter Try.func7, Try.ntmps7
      go_wp2_with fail
      refine (few_any _ _ w0).mono ?_
      rintro e x1 ⟨rfl, rfl⟩
      go_wp2_with fail
      refine (key_any _ _ s0).mono ?_
      rintro e x2 ⟨rfl, q1⟩
      go_wp2_with fail
      refine (after_any _ _ s0).mono ?_
      rintro e x3 ⟨rfl, q2⟩
      go_wp2_with fail
      refine (pref_any _ _ s0).mono ?_
      rintro e x4 ⟨rfl, q3⟩
      go_wp2_with fail
      refine (pref_any _ _ S2.out).mono ?_
      rintro e x5 ⟨rfl, q4⟩
      go_wp2_with fail
      refine (under_any _ _ _ s0 S2.out).mono ?_
      rintro e x6 ⟨rfl, rfl⟩
      go_wp2_with fail
      refine (pref_any _ _ f4).mono ?_
      rintro e x7 ⟨rfl, q5⟩
      go_wp2_with fail
      refine (under_any _ _ _ f4 s0).mono ?_
      rintro e x8 ⟨rfl, rfl⟩
      go_wp2_with fail
      refine (awake_any _).mono ?_
      rintro e x9 ⟨rfl, q6⟩
      go_wp2
      go_ret
      exact ⟨rfl, ((((q1.trans q2).trans q3).trans q4).trans q5).trans q6⟩

theorem own : ownKnob Try.prog.godebug = none := by kernel_rfl

set_option maxRecDepth 100000 in
theorem lifted (os : Os) (started : os.Started) (H : Type) (enc : TypeId × Value → H) :
    ReturnsInHanded {} Try.checked os 7 .any (Rows.nameKeysSpec.pre6 enc Try.prog Try.f7 Rows.nameKeysRow.domain false) (Rows.nameKeysSpec.post enc Try.prog Try.f7 false true false false) := by
  refine returnsInHanded_of_change (C := Try.checked) own started (by kernel_rfl) Try.func7
    (ChangeSpec.witness6 (enc := enc) (C := Try.checked) false ⟨#[], #[.string ByteArray.empty, .int .u8 0], []⟩ 8 (by kernel_rfl) (by kernel_rfl) (by kernel_rfl) (by kernel_rfl)) ?_
  intro W base args ds gs before hval0 hW hcnd _
  have hval : ∀ (j : Nat) t v, Try.f7.params[j]? = some t → args[j]? = some v → Value.okWide Try.prog W .any base t v := hval0
  have hW' := hW
  obtain ⟨p, q, hA0, hV, rfl, hfz, hnd⟩ := hW
  have hA : DataW.TrodAll enc Try.prog W 0 (fun _ => true) true Try.f7.params.toList args.toList ds p := hA0
  rw [Try.params7] at hA hval
  obtain ⟨v0, vs0, d0, ds0, p0, q0, hargs, rfl, rfl, h0, r0⟩ := trodAll_cons hA
  obtain ⟨v1, vs1, d1, ds1, p1, q1, rfl, rfl, rfl, h1, r1⟩ := trodAll_cons r0
  obtain ⟨rfl, rfl, rfl⟩ := trodAll_nil r1
  obtain rfl : args = #[v0, v1] := by cases args; simp_all
  obtain ⟨rfl, rfl⟩ := trodVars_none hV
  obtain ⟨a0, rfl, rfl, rfl, w0⟩ := open_string Try.underlying9 (hval 0 9 v0 rfl rfl) h0
  obtain ⟨a1, rfl, rfl, rfl, w1⟩ := open_int Try.underlying5 (hval 1 5 v1 rfl rfl) h1
  clear hA0 hval0
  simp only [List.append_nil] at hW'
  refine (walk a0 a1 w0 w1 W).mono fun e W' ⟨he, bel⟩ => ?_
  subst he
  exact ⟨_, rfl, _, _, _, [], _, [], hW', trodAll_mk1 (shut_bool Try.underlying4 _), (trodAll_cons_mk (shut_string Try.underlying9 w0) (trodAll_cons_mk (shut_int Try.underlying5 w1) trodAll_mk0)), rfl, bel.frame _, fun h => by cases h⟩

theorem over : Rows.nameKeysRow.holds Try.pinned (OpenSpec.ofChange Rows.nameKeysSpec) :=
  OpenClaim.holds_of_wide 7 Try.f7 rfl rfl rfl rfl rfl rfl rfl ⟨rfl, rfl, rfl, rfl, rfl⟩ rfl rfl rfl rfl rfl (by kernel_rfl) Try.func7 (by kernel_rfl)
    (of_decide_eq_true (by kernel_rfl)) (by unfold Func.isWrapper; first | (rw [if_pos (by decide +kernel)]; kernel_rfl) | (rw [if_neg (by decide +kernel)]; exact ⟨rfl, rfl⟩))
    (fun os started H enc _ => lifted os started H enc)

theorem proved : Rows.NameKeysSaid := over
#print axioms proved
end Go.Proofs.Ytdjmiiibhcnokaa.nameKeys
