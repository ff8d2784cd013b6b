/-
  Proved: whatever span and numbers SpanWithin is called with, it returns true and leaves what it was given as it was. No condition.
-/
import Derived.Test.YtmekgpnppcponaaSAwake
import Derived.Test.YtmekgpnppcponaaSMath
import Derived.Test.YtmekgpnppcponaaSOpen
namespace Go.Proofs.Ytmekgpnppcponaa.spanWithin
open Go.ChangeShapes Go.WideShapes Go.ChangeAt Go.RowKit
open Go.ChangeMaps (open_string shut_string)
set_option linter.unusedVariables false

attribute [local irreducible] ofP few
set_option maxHeartbeats 4000000 in
set_option maxRecDepth 100000 in
theorem walk (f t : Int) (o b : Bool) (m n : Int) (w : World) (w0 : in64 f) (w00 : in64 t) (w1 : (Lit.int .i64 m).wf = true) (w2 : (Lit.int .i64 n).wf = true) :
    Calls Try.prog 6 #[spn f t o b, .int .i64 m, .int .i64 n] w fun e w' => e = .returned (.bool true) ∧ Q w w' := by
  have hm := wf64 w1
  have hn := wf64 w2
  clear w1 w2
  have Q0 := Lib.hid fun o => (Q.refl w).alloc o
  have hq : ∃ x y e, ofP f t o b m = (x, y, e) := ⟨_, _, _, rfl⟩
  obtain ⟨x, y, e, hq⟩ := hq
  have hr : ∃ x y e, ofP f t o b n = (x, y, e) := ⟨_, _, _, rfl⟩
  obtain ⟨x', y', e', hr⟩ := hr
  have O := Lib.hid fun w => of_any f t o b m w hm.2 hq
  have R := Lib.hid fun w => of_any f t o b n w hn.2 hr
  by_cases he : e = 0
  · subst he
    obtain ⟨p1, p2, p3⟩ := of_yes hq
    by_cases hlt : n < m
    · clear hq hr
      rw [spn] at O R ⊢
      go_enter Try.func6, Try.ntmps6
      go_wp2_with fail
      refine (O.out _).mono ?_
      rintro e w1 ⟨rfl, q1⟩
      have C0 := cells_of q1
      have g1 : w.heap.size < w1.heap.size := by have := q1.size; simp at this; omega
      obtain ⟨c0, c1, c2, c3⟩ := C0
      go_wp2_with fail
      refine (R.out _).mono ?_
      rintro e w2 ⟨rfl, q2⟩
      go_wp2_with fail
      refine (awake_any _).mono ?_
      rintro e w9 ⟨rfl, q9⟩
      go_wp2
      go_ret
      exact ⟨rfl, (((Q0.out _).trans q1).trans q2).trans q9⟩
    · have hge : m ≤ n := by omega
      obtain ⟨rfl, hyy⟩ := of_more hq hr hge
      obtain ⟨r1, r2, r3⟩ := of_yes hr
      have hlt2 : decide (n < m) = false := decide_eq_false hlt
      clear hq hr
      rw [spn] at O R ⊢
      go_enter Try.func6, Try.ntmps6
      go_wp2_with fail
      refine (O.out _).mono ?_
      rintro e w1 ⟨rfl, q1⟩
      have C0 := cells_of q1
      have g1 : w.heap.size < w1.heap.size := by have := q1.size; simp at this; omega
      obtain ⟨c0, c1, c2, c3⟩ := C0
      go_wp2_with fail
      refine (R.out _).mono ?_
      rintro e w2 ⟨rfl, q2⟩
      go_wp2_with fail
      refine (awake_any _).mono ?_
      rintro e w9 ⟨rfl, q9⟩
      go_wp2
      go_ret
      exact ⟨rfl, (((Q0.out _).trans q1).trans q2).trans q9⟩
  · obtain ⟨rfl, rfl, -⟩ := of_no hq he
    have z1 : (e == 0) = false := by simpa using he
    clear hq hr
    rw [spn] at O R ⊢
    go_enter Try.func6, Try.ntmps6
    go_wp2_with fail
    refine (O.out _).mono ?_
    rintro e w1 ⟨rfl, q1⟩
    have C0 := cells_of q1
    have g1 : w.heap.size < w1.heap.size := by have := q1.size; simp at this; omega
    obtain ⟨c0, c1, c2, c3⟩ := C0
    go_wp2_with fail
    refine (R.out _).mono ?_
    rintro e w2 ⟨rfl, q2⟩
    go_wp2_with fail
    refine (awake_any _).mono ?_
    rintro e w9 ⟨rfl, q9⟩
    go_wp2
    go_ret
    exact ⟨rfl, (((Q0.out _).trans q1).trans q2).trans q9⟩

set_option maxRecDepth 100000 in
theorem lifted (os : Os) (started : os.Started) (H : Type) (enc : TypeId × Value → H) :
    ReturnsInHanded {} Try.checked os 6 .any (Rows.spanWithinSpec.pre6 enc Try.prog Try.f6 Rows.spanWithinRow.domain false) (Rows.spanWithinSpec.post enc Try.prog Try.f6 false true false false) := by
  refine returnsInHanded_of_change (C := Try.checked) own started (by kernel_rfl) Try.func6
    (ChangeSpec.witness6 (enc := enc) (C := Try.checked) false ⟨#[], #[.agg #[.int .i64 0, .int .i64 0, .bool false, .bool false], .int .i64 0, .int .i64 0], []⟩ 8 (by kernel_rfl) (by kernel_rfl) (by kernel_rfl) (by kernel_rfl)) ?_
  intro W base args ds gs before hval0 hW hcnd _
  have hval : ∀ (j : Nat) t v, Try.f6.params[j]? = some t → args[j]? = some v → Value.okWide Try.prog W .any base t v := hval0
  have hW' := hW
  obtain ⟨p, q, hA0, hV, rfl, hfz, hnd⟩ := hW
  have hA : DataW.TrodAll enc Try.prog W 0 (fun _ => true) true Try.f6.params.toList args.toList ds p := hA0
  rw [Try.params6] at hA hval
  obtain ⟨v0, vs0, d0, ds0, p0, q0, hargs, rfl, rfl, h0, r0⟩ := trodAll_cons hA
  obtain ⟨v1, vs1, d1, ds1, p1, q1, rfl, rfl, rfl, h1, r1⟩ := trodAll_cons r0
  obtain ⟨v2, vs2, d2, ds2, p2, q2, rfl, rfl, rfl, h2, r2⟩ := trodAll_cons r1
  obtain ⟨rfl, rfl, rfl⟩ := trodAll_nil r2
  obtain rfl : args = #[v0, v1, v2] := by cases args; simp_all
  obtain ⟨rfl, rfl⟩ := trodVars_none hV
  clear hA0 hval0
  simp only [List.append_nil] at hW'
  have hlt : ∀ x ∈ p0 ++ p1 ++ p2, x.block < W.heap.size := fun x hx => by simpa using hW'.lt x (by simpa using hx)
  obtain ⟨f0, t0, o0, b0, rfl, u0, z0⟩ := open_span (hval 0 23 v0 rfl rfl) h0
  obtain ⟨a1, rfl, -, -, w1⟩ := open_int Try.underlying3 (hval 1 3 v1 rfl rfl) h1
  obtain ⟨a2, rfl, -, -, w2⟩ := open_int Try.underlying3 (hval 2 3 v2 rfl rfl) h2
  refine (walk f0 t0 o0 b0 a1 a2 W u0 z0 w1 w2).mono fun e W' ⟨he, bel⟩ => ?_
  subst he
  refine ⟨_, rfl, _, _, _, [], _, [], hW', trodAll_mk1 (shut_bool Try.underlying4 _), (trodAll_cons_mk (Below.trod laid (by kernel_rfl) (of_decide_eq_true (by kernel_rfl)) h0 bel (fun x hx => hlt x (by simp [hx]))) (trodAll_cons_mk (Below.trod laid (by kernel_rfl) (of_decide_eq_true (by kernel_rfl)) h1 bel (fun x hx => hlt x (by simp [hx]))) (trodAll_cons_mk (Below.trod laid (by kernel_rfl) (of_decide_eq_true (by kernel_rfl)) h2 bel (fun x hx => hlt x (by simp [hx]))) trodAll_mk0))), rfl, Below.frame bel _, fun h => by cases h⟩

theorem over : Rows.spanWithinRow.holds Try.pinned (OpenSpec.ofChange Rows.spanWithinSpec) :=
  OpenClaim.holds_of_wide 6 Try.f6 rfl rfl rfl rfl rfl rfl rfl ⟨rfl, rfl, rfl, rfl, rfl⟩ rfl rfl rfl rfl rfl (by kernel_rfl) Try.func6 (by kernel_rfl)
    (of_decide_eq_true (by kernel_rfl)) (by unfold Func.isWrapper; first | (rw [if_pos (by decide +kernel)]; kernel_rfl) | (rw [if_neg (by decide +kernel)]; exact ⟨rfl, rfl⟩))
    (fun os started H enc _ => lifted os started H enc)

theorem proved : Rows.SpanWithinSaid := over
#print axioms proved
end Go.Proofs.Ytmekgpnppcponaa.spanWithin
