/-
  Proved: whatever span, text and number SpanOctets is called with, it returns true and leaves what it was given as it was. No condition.
-/
import Derived.Test.YtmekgpnppcponaaSAwake
import Derived.Test.YtmekgpnppcponaaSMath
import Derived.Test.YtmekgpnppcponaaSOpen
namespace Go.Proofs.Ytmekgpnppcponaa.spanOctets
open Go.ChangeShapes Go.WideShapes Go.ChangeAt Go.RowKit
open Go.ChangeMaps (open_string shut_string)
set_option linter.unusedVariables false

attribute [local irreducible] ofP few
set_option maxHeartbeats 4000000 in
set_option maxRecDepth 100000 in
theorem walk (f t : Int) (o b : Bool) (d : ByteArray) (a : Int) (w : World) (w0 : in64 f) (w00 : in64 t) (w1 : d.size ≤ maxLen) (w2 : (Lit.int .u16 a).wf = true) :
    Calls Try.prog 9 #[spn f t o b, .string d, .int .u16 a] w fun e w' => e = .returned (.bool true) ∧ Q w w' := by
  obtain ⟨n, rfl, hn⟩ := nat16 w2
  clear w2
  have fs := few_size d
  have F := Lib.hid fun w => few_any d w w1
  obtain ⟨D, hD⟩ : ∃ D, D = few d := ⟨_, rfl⟩
  rw [← hD] at fs F
  clear hD
  have hD0 : D.size ≤ 5000 := by omega
  have n0 : (⟨#[]⟩ : ByteArray).toList = [] := by kernel_rfl
  have Q0 := Lib.hid fun o => (Q.refl w).alloc o
  rcases of_cases f t o b D.size with ⟨i, k, h, h1, h2⟩ | ⟨e', h, he, he'⟩
  · have O := Lib.hid fun w => of_any f t o b D.size w (by omega) h
    have A := Lib.hid fun w => cut_yes f t o b D w hD0 h
    obtain ⟨m, hm⟩ : ∃ m, m = n % k := ⟨_, rfl⟩
    have hm1 : m < k := by rw [hm]; exact Nat.mod_lt _ (by omega)
    have e1 : (n : Int) % (k : Int) = (m : Int) := by rw [hm]; simp
    have C := Lib.hid fun w => cut_yes ((i : Int) + (m : Int)) ((i : Int) + (m : Int)) false false D w hD0 (i := i + m) (k := 1) (by rw [of_in (by omega) (by omega) (by omega) (by omega)]; simp <;> omega)
    have E : (D.extract i (i + k)).extract m (m + 1) = D.extract (i + m) (i + m + 1) := by rw [cut_cut]; congr 1; omega
    have hs : (D.extract i (i + k)).size = k := by rw [size_cut _ (by omega)]; omega
    obtain ⟨S, hS⟩ : ∃ S, S = D.extract i (i + k) := ⟨_, rfl⟩
    rw [← hS] at A hs E
    rw [← E] at C
    clear h hS hm E
    rw [spn] at O A C ⊢
    go_enter Try.func9, Try.ntmps9
    go_wp2_with fail
    refine (F.out _).mono ?_
    rintro e w0 ⟨rfl, rfl⟩
    go_wp2_with fail
    refine (O.out _).mono ?_
    rintro e w1 ⟨rfl, q1⟩
    have C0 := cells_of q1
    have g1 : w.heap.size < w1.heap.size := by have := q1.size; simp at this; omega
    obtain ⟨c0, c1, c2, c3⟩ := C0
    go_wp2_with fail
    refine (A.out _).mono ?_
    rintro e w2 ⟨rfl, q2⟩
    go_wp2_with fail
    refine (C.out _).mono ?_
    rintro e w3 ⟨rfl, q3⟩
    go_wp2_with fail
    refine (awake_any _).mono ?_
    rintro e w9 ⟨rfl, q9⟩
    go_wp2
    go_ret
    exact ⟨rfl, ((((Q0.out _).trans q1).trans q2).trans q3).trans q9⟩
  · have O := Lib.hid fun w => of_any f t o b D.size w (by omega) h
    have A := Lib.hid fun w => cut_no f t o b D w hD0 h he
    have z1 : (e' == 0) = false := by simpa using he
    clear h
    rw [spn] at O A ⊢
    go_enter Try.func9, Try.ntmps9
    go_wp2_with fail
    refine (F.out _).mono ?_
    rintro e w0 ⟨rfl, rfl⟩
    go_wp2_with fail
    refine (O.out _).mono ?_
    rintro e w1 ⟨rfl, q1⟩
    have C0 := cells_of q1
    have g1 : w.heap.size < w1.heap.size := by have := q1.size; simp at this; omega
    obtain ⟨c0, c1, c2, c3⟩ := C0
    go_wp2_with fail
    refine (A.out _).mono ?_
    rintro e w2 ⟨rfl, q2⟩
    go_wp2_with fail
    refine (awake_any _).mono ?_
    rintro e w9 ⟨rfl, q9⟩
    go_wp2
    go_ret
    exact ⟨rfl, (((Q0.out _).trans q1).trans q2).trans q9⟩

set_option maxRecDepth 100000 in
theorem lifted (os : Os) (started : os.Started) (H : Type) (enc : TypeId × Value → H) :
    ReturnsInHanded {} Try.checked os 9 .any (Rows.spanOctetsSpec.pre6 enc Try.prog Try.f9 Rows.spanOctetsRow.domain false) (Rows.spanOctetsSpec.post enc Try.prog Try.f9 false true false false) := by
  refine returnsInHanded_of_change (C := Try.checked) own started (by kernel_rfl) Try.func9
    (ChangeSpec.witness6 (enc := enc) (C := Try.checked) false ⟨#[], #[.agg #[.int .i64 0, .int .i64 0, .bool false, .bool false], .string ByteArray.empty, .int .u16 0], []⟩ 8 (by kernel_rfl) (by kernel_rfl) (by kernel_rfl) (by kernel_rfl)) ?_
  intro W base args ds gs before hval0 hW hcnd _
  have hval : ∀ (j : Nat) t v, Try.f9.params[j]? = some t → args[j]? = some v → Value.okWide Try.prog W .any base t v := hval0
  have hW' := hW
  obtain ⟨p, q, hA0, hV, rfl, hfz, hnd⟩ := hW
  have hA : DataW.TrodAll enc Try.prog W 0 (fun _ => true) true Try.f9.params.toList args.toList ds p := hA0
  rw [Try.params9] at hA hval
  obtain ⟨v0, vs0, d0, ds0, p0, q0, hargs, rfl, rfl, h0, r0⟩ := trodAll_cons hA
  obtain ⟨v1, vs1, d1, ds1, p1, q1, rfl, rfl, rfl, h1, r1⟩ := trodAll_cons r0
  obtain ⟨v2, vs2, d2, ds2, p2, q2, rfl, rfl, rfl, h2, r2⟩ := trodAll_cons r1
  obtain ⟨rfl, rfl, rfl⟩ := trodAll_nil r2
  obtain rfl : args = #[v0, v1, v2] := by cases args; simp_all
  obtain ⟨rfl, rfl⟩ := trodVars_none hV
  clear hA0 hval0
  simp only [List.append_nil] at hW'
  have hlt : ∀ x ∈ p0 ++ p1 ++ p2, x.block < W.heap.size := fun x hx => by simpa using hW'.lt x (by simpa using hx)
  obtain ⟨f0, t0, o0, b0, rfl, u0, z0⟩ := open_span (hval 0 23 v0 rfl rfl) h0
  obtain ⟨a1, rfl, -, -, w1⟩ := open_string Try.underlying9 (hval 1 9 v1 rfl rfl) h1
  obtain ⟨a2, rfl, -, -, w2⟩ := open_int Try.underlying42 (hval 2 42 v2 rfl rfl) h2
  refine (walk f0 t0 o0 b0 a1 a2 W u0 z0 w1 w2).mono fun e W' ⟨he, bel⟩ => ?_
  subst he
  refine ⟨_, rfl, _, _, _, [], _, [], hW', trodAll_mk1 (shut_bool Try.underlying4 _), (trodAll_cons_mk (Below.trod laid (by kernel_rfl) (of_decide_eq_true (by kernel_rfl)) h0 bel (fun x hx => hlt x (by simp [hx]))) (trodAll_cons_mk (Below.trod laid (by kernel_rfl) (of_decide_eq_true (by kernel_rfl)) h1 bel (fun x hx => hlt x (by simp [hx]))) (trodAll_cons_mk (Below.trod laid (by kernel_rfl) (of_decide_eq_true (by kernel_rfl)) h2 bel (fun x hx => hlt x (by simp [hx]))) trodAll_mk0))), rfl, Below.frame bel _, fun h => by cases h⟩

theorem over : Rows.spanOctetsRow.holds Try.pinned (OpenSpec.ofChange Rows.spanOctetsSpec) :=
  OpenClaim.holds_of_wide 9 Try.f9 rfl rfl rfl rfl rfl rfl rfl ⟨rfl, rfl, rfl, rfl, rfl⟩ rfl rfl rfl rfl rfl (by kernel_rfl) Try.func9 (by kernel_rfl)
    (of_decide_eq_true (by kernel_rfl)) (by unfold Func.isWrapper; first | (rw [if_pos (by decide +kernel)]; kernel_rfl) | (rw [if_neg (by decide +kernel)]; exact ⟨rfl, rfl⟩))
    (fun os started H enc _ => lifted os started H enc)

theorem proved : Rows.SpanOctetsSaid := over
#print axioms proved
end Go.Proofs.Ytmekgpnppcponaa.spanOctets
