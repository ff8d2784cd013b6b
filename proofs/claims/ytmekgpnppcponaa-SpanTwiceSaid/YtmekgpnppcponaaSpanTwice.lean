/-
  Proved: whatever text and spans SpanTwice is called with, it returns true and leaves what it was given as it was. No condition.
-/
import Derived.Test.YtmekgpnppcponaaSAwake
import Derived.Test.YtmekgpnppcponaaSMath
import Derived.Test.YtmekgpnppcponaaSOpen
namespace Go.Proofs.Ytmekgpnppcponaa.spanTwice
open Go.ChangeShapes Go.WideShapes Go.ChangeAt Go.RowKit
open Go.ChangeMaps (open_string shut_string)
set_option linter.unusedVariables false

attribute [local irreducible] ofP few
set_option maxHeartbeats 4000000 in
set_option maxRecDepth 100000 in
theorem walk (d : ByteArray) (f t : Int) (o b : Bool) (f' t' : Int) (o' b' : Bool) (w : World) (w0 : d.size ≤ maxLen) (w1 : in64 f) (w2 : in64 t) (w3 : in64 f') (w4 : in64 t') :
    Calls Try.prog 8 #[.string d, spn f t o b, spn f' t' o' b'] w fun e w' => e = .returned (.bool true) ∧ Q w w' := by
  have fs := few_size d
  have F := Lib.hid fun w => few_any d w w0
  obtain ⟨D, hD⟩ : ∃ D, D = few d := ⟨_, rfl⟩
  rw [← hD] at fs F
  clear hD
  have hD0 : D.size ≤ 5000 := by omega
  have n0 : (⟨#[]⟩ : ByteArray).toList = [] := by kernel_rfl
  have Q0 := Lib.hid fun o o' => ((Q.refl w).alloc o).alloc o'
  rcases of_cases f t o b D.size with ⟨i, k, h, h1, h2⟩ | ⟨e', h, he, he'⟩
  · have A := Lib.hid fun w => cut_yes f t o b D w hD0 h
    have hs : (D.extract i (i + k)).size = k := by rw [size_cut _ (by omega)]; omega
    have hs0 : (D.extract i (i + k)).size ≤ 5000 := by omega
    have O := Lib.hid fun w => of_any f t o b D.size w (by omega) h
    rcases of_cases f' t' o' b' (D.extract i (i + k)).size with ⟨i', k', h', h1', h2'⟩ | ⟨e', h', he, he'⟩
    · have B := Lib.hid fun w => cut_yes f' t' o' b' (D.extract i (i + k)) w hs0 h'
      have O' := Lib.hid fun w => of_any f' t' o' b' (D.extract i (i + k)).size w (by omega) h'
      have C := Lib.hid fun w => cut_yes ((i : Int) + (i' : Int)) ((i : Int) + (i' : Int) + (k' : Int) - 1) false false D w hD0 (i := i + i') (k := k') (by rw [of_in (by omega) (by omega) (by omega) (by omega)]; simp; omega)
      have E : (D.extract i (i + k)).extract i' (i' + k') = D.extract (i + i') (i + i' + k') := by rw [cut_cut]; congr 1; omega
      rw [E] at B
      rw [hs] at O'
      have n1 : ((i : Int) + (i' : Int) + (k' : Int) - 1) ≤ 5000 := by omega
      obtain ⟨S, hS⟩ : ∃ S, S = D.extract i (i + k) := ⟨_, rfl⟩
      rw [← hS] at A B hs
      clear h h' hS E
      rw [spn] at A B C O O' ⊢
      rw [spn]
      go_enter Try.func8, Try.ntmps8
      go_wp2_with fail
      refine (F.out _).mono ?_
      rintro e w0 ⟨rfl, rfl⟩
      go_wp2_with fail
      refine (A.out _).mono ?_
      rintro e w1 ⟨rfl, q1⟩
      have hg : w.heap.size + 1 < w1.heap.size := by have := q1.size; simp at this; omega
      have g1 : w.heap.size < w1.heap.size := by omega
      have D1 : Cells w1 (w.heap.size + 1) f' t' o' b' := by have := cells_of q1; simpa using this
      have C1 : Cells w1 w.heap.size f t o b := Cells.on (cells_of (Q.refl _)) (by simp) (((Q.refl _).alloc _).trans q1)
      obtain ⟨c0, c1, c2, c3⟩ := C1
      obtain ⟨d0, d1, d2, d3⟩ := D1
      go_wp2_with fail
      refine (B.out _).mono ?_
      rintro e w2 ⟨rfl, q2⟩
      have C2 := Cells.on ⟨c0, c1, c2, c3⟩ g1 q2
      clear c0 c1 c2 c3
      obtain ⟨c0, c1, c2, c3⟩ := C2
      have g2 := Nat.lt_of_lt_of_le g1 q2.size
      have hg2 := Nat.lt_of_lt_of_le hg q2.size
      have D2 := Cells.on ⟨d0, d1, d2, d3⟩ hg q2
      clear d0 d1 d2 d3
      obtain ⟨d0, d1, d2, d3⟩ := D2
      go_wp2_with fail
      refine (O.out _).mono ?_
      rintro e w3 ⟨rfl, q3⟩
      have D3 := Cells.on ⟨d0, d1, d2, d3⟩ hg2 q3
      clear d0 d1 d2 d3
      obtain ⟨d0, d1, d2, d3⟩ := D3
      go_wp2_with fail
      refine (O'.out _).mono ?_
      rintro e w4 ⟨rfl, q4⟩
      go_wp2_with fail
      refine (C.out _).mono ?_
      rintro e w5 ⟨rfl, q5⟩
      go_wp2_with fail
      refine (awake_any _).mono ?_
      rintro e w9 ⟨rfl, q9⟩
      go_wp2
      go_ret
      exact ⟨rfl, ((((((Q0.out _ _).trans q1).trans q2).trans q3).trans q4).trans q5).trans q9⟩
    · have B := Lib.hid fun w => cut_no f' t' o' b' (D.extract i (i + k)) w hs0 h' he
      have z1 : (e' == 0) = false := by simpa using he
      obtain ⟨S, hS⟩ : ∃ S, S = D.extract i (i + k) := ⟨_, rfl⟩
      rw [← hS] at A B hs
      clear h h' hS O
      rw [spn] at A B ⊢
      rw [spn]
      go_enter Try.func8, Try.ntmps8
      go_wp2_with fail
      refine (F.out _).mono ?_
      rintro e w0 ⟨rfl, rfl⟩
      go_wp2_with fail
      refine (A.out _).mono ?_
      rintro e w1 ⟨rfl, q1⟩
      have hg : w.heap.size + 1 < w1.heap.size := by have := q1.size; simp at this; omega
      have g1 : w.heap.size < w1.heap.size := by omega
      have D1 : Cells w1 (w.heap.size + 1) f' t' o' b' := by have := cells_of q1; simpa using this
      have C1 : Cells w1 w.heap.size f t o b := Cells.on (cells_of (Q.refl _)) (by simp) (((Q.refl _).alloc _).trans q1)
      obtain ⟨c0, c1, c2, c3⟩ := C1
      obtain ⟨d0, d1, d2, d3⟩ := D1
      go_wp2_with fail
      refine (B.out _).mono ?_
      rintro e w2 ⟨rfl, q2⟩
      go_wp2_with fail
      refine (awake_any _).mono ?_
      rintro e w9 ⟨rfl, q9⟩
      go_wp2
      go_ret
      exact ⟨rfl, (((Q0.out _ _).trans q1).trans q2).trans q9⟩
  · have A := Lib.hid fun w => cut_no f t o b D w hD0 h he
    have z1 : (e' == 0) = false := by simpa using he
    clear h
    rw [spn] at A ⊢
    rw [spn]
    go_enter Try.func8, Try.ntmps8
    go_wp2_with fail
    refine (F.out _).mono ?_
    rintro e w0 ⟨rfl, rfl⟩
    go_wp2_with fail
    refine (A.out _).mono ?_
    rintro e w1 ⟨rfl, q1⟩
    go_wp2_with fail
    refine (awake_any _).mono ?_
    rintro e w9 ⟨rfl, q9⟩
    go_wp2
    go_ret
    exact ⟨rfl, ((Q0.out _ _).trans q1).trans q9⟩

set_option maxRecDepth 100000 in
theorem lifted (os : Os) (started : os.Started) (H : Type) (enc : TypeId × Value → H) :
    ReturnsInHanded {} Try.checked os 8 .any (Rows.spanTwiceSpec.pre6 enc Try.prog Try.f8 Rows.spanTwiceRow.domain false) (Rows.spanTwiceSpec.post enc Try.prog Try.f8 false true false false) := by
  refine returnsInHanded_of_change (C := Try.checked) own started (by kernel_rfl) Try.func8
    (ChangeSpec.witness6 (enc := enc) (C := Try.checked) false ⟨#[], #[.string ByteArray.empty, .agg #[.int .i64 0, .int .i64 0, .bool false, .bool false], .agg #[.int .i64 0, .int .i64 0, .bool false, .bool false]], []⟩ 8 (by kernel_rfl) (by kernel_rfl) (by kernel_rfl) (by kernel_rfl)) ?_
  intro W base args ds gs before hval0 hW hcnd _
  have hval : ∀ (j : Nat) t v, Try.f8.params[j]? = some t → args[j]? = some v → Value.okWide Try.prog W .any base t v := hval0
  have hW' := hW
  obtain ⟨p, q, hA0, hV, rfl, hfz, hnd⟩ := hW
  have hA : DataW.TrodAll enc Try.prog W 0 (fun _ => true) true Try.f8.params.toList args.toList ds p := hA0
  rw [Try.params8] at hA hval
  obtain ⟨v0, vs0, d0, ds0, p0, q0, hargs, rfl, rfl, h0, r0⟩ := trodAll_cons hA
  obtain ⟨v1, vs1, d1, ds1, p1, q1, rfl, rfl, rfl, h1, r1⟩ := trodAll_cons r0
  obtain ⟨v2, vs2, d2, ds2, p2, q2, rfl, rfl, rfl, h2, r2⟩ := trodAll_cons r1
  obtain ⟨rfl, rfl, rfl⟩ := trodAll_nil r2
  obtain rfl : args = #[v0, v1, v2] := by cases args; simp_all
  obtain ⟨rfl, rfl⟩ := trodVars_none hV
  clear hA0 hval0
  simp only [List.append_nil] at hW'
  have hlt : ∀ x ∈ p0 ++ p1 ++ p2, x.block < W.heap.size := fun x hx => by simpa using hW'.lt x (by simpa using hx)
  obtain ⟨a0, rfl, -, -, w0⟩ := open_string Try.underlying9 (hval 0 9 v0 rfl rfl) h0
  obtain ⟨f1, t1, o1, b1, rfl, u1, z1⟩ := open_span (hval 1 23 v1 rfl rfl) h1
  obtain ⟨f2, t2, o2, b2, rfl, u2, z2⟩ := open_span (hval 2 23 v2 rfl rfl) h2
  refine (walk a0 f1 t1 o1 b1 f2 t2 o2 b2 W w0 u1 z1 u2 z2).mono fun e W' ⟨he, bel⟩ => ?_
  subst he
  refine ⟨_, rfl, _, _, _, [], _, [], hW', trodAll_mk1 (shut_bool Try.underlying4 _), (trodAll_cons_mk (Below.trod laid (by kernel_rfl) (of_decide_eq_true (by kernel_rfl)) h0 bel (fun x hx => hlt x (by simp [hx]))) (trodAll_cons_mk (Below.trod laid (by kernel_rfl) (of_decide_eq_true (by kernel_rfl)) h1 bel (fun x hx => hlt x (by simp [hx]))) (trodAll_cons_mk (Below.trod laid (by kernel_rfl) (of_decide_eq_true (by kernel_rfl)) h2 bel (fun x hx => hlt x (by simp [hx]))) trodAll_mk0))), rfl, Below.frame bel _, fun h => by cases h⟩

theorem over : Rows.spanTwiceRow.holds Try.pinned (OpenSpec.ofChange Rows.spanTwiceSpec) :=
  OpenClaim.holds_of_wide 8 Try.f8 rfl rfl rfl rfl rfl rfl rfl ⟨rfl, rfl, rfl, rfl, rfl⟩ rfl rfl rfl rfl rfl (by kernel_rfl) Try.func8 (by kernel_rfl)
    (of_decide_eq_true (by kernel_rfl)) (by unfold Func.isWrapper; first | (rw [if_pos (by decide +kernel)]; kernel_rfl) | (rw [if_neg (by decide +kernel)]; exact ⟨rfl, rfl⟩))
    (fun os started H enc _ => lifted os started H enc)

theorem proved : Rows.SpanTwiceSaid := over
#print axioms proved
end Go.Proofs.Ytmekgpnppcponaa.spanTwice
