/-
  Proved: whatever notes ChangeDead is called with, it returns true and leaves what it was given as it was. No condition.
-/
import Derived.Test.YthlbpjopkaninaaNh
namespace Go.Proofs.Ythlbpjopkaninaa.changeDead
set_option maxRecDepth 100000
open Go.ChangeShapes Go.WideShapes Go.ChangeAt Go.RowKit
open Go.ChangeMaps (open_string shut_string)
set_option linter.unusedVariables false
set_option linter.unusedSimpArgs false

set_option maxHeartbeats 8000000 in
set_option maxRecDepth 100000 in
theorem walk (l : List Nte) (v : Value) (w : World) (t0 : Ntes w w.heap.size v l) (z0 : l.length ≤ maxLen) :
    Calls Try.prog 6 #[v] w fun e w' => e = .returned (.bool true) ∧ Q w w' := by
  have F1 := Lib.hid (fewNs_any l v w z0 t0)
  have okA : ∀ x ∈ fewNs l, okW x := fewNs_okW t0.okAll
  have lA := fewNs_len l
  obtain ⟨A, hA⟩ : ∃ A, A = fewNs l := ⟨_, rfl⟩
  rw [← hA] at F1 okA lA
  clear hA t0 z0
  have lC := Nat.le_trans (cntN_len A) lA
  have lL := Nat.le_trans (liveN_le A A) lA
  have lI := Nat.le_trans (itN_le A) lA
  have HLL := liveN_len A
  have OA := Lib.hid okA
  have OC := Lib.hid (cntN_okW okA)
  have OL := Lib.hid (liveN_okW (all := A) okA)
  have OI := Lib.hid (itN_okI okA)
  have K1 := Lib.hid (fun (x : World) (u : Value) (h : Ntes x x.heap.size u A) => countN_any A u x (by omega) h)
  have K2 := Lib.hid (fun (x : World) (u : Value) (h : Ntes x x.heap.size u A) => liveN_any A A u u x (by omega) (by omega) h h)
  have K3 := Lib.hid (fun (x : World) (u : Value) (h : Ntes x x.heap.size u (liveN A A)) => countN_any (liveN A A) u x (by omega) h)
  have K4 := Lib.hid (fun (x : World) (u v : Value) (h : Ntes x x.heap.size u A) (k : Ntes x x.heap.size v (cntN A)) => liveN_any A (cntN A) u v x (by omega) (by omega) h k)
  have K5 := Lib.hid (fun (x : World) (u : Value) (h : Ntes x x.heap.size u (liveN A A)) => itemsN_any (liveN A A) u x (by omega) h)
  have K6 := Lib.hid (fun (x : World) (u : Value) (h : Ntes x x.heap.size u A) => itemsN_any A u x (by omega) h)
  rw [cntN_live] at K3
  rw [liveN_cnt] at K4
  rw [itN_live] at K5
  obtain ⟨X, hX⟩ : ∃ X, X = cntN A := ⟨_, rfl⟩
  obtain ⟨L, hL⟩ : ∃ L, L = liveN A A := ⟨_, rfl⟩
  obtain ⟨T, hT⟩ : ∃ T, T = itN A := ⟨_, rfl⟩
  rw [← hX] at K1 K3 K4 OC lC HLL
  rw [← hL] at K2 K3 K5 OL lL HLL
  rw [← hT] at K5 K6 OI lI
  have S1 := Lib.hid (fun (x : World) (u v : Value) (h : Ntes x x.heap.size u X) (k : Ntes x x.heap.size v X) => nsame_any X X u v x (by omega) (by omega) h k)
  have S2 := Lib.hid (fun (x : World) (u v : Value) (h : Itms x x.heap.size u T) (k : Itms x x.heap.size v T) => isame_any T T u v x (by omega) (by omega) h k)
  have hd1 : decide (X = X) = true := by simp
  have hd2 : decide (T = T) = true := by simp
  rw [hd1] at S1
  rw [hd2] at S2
  have hll : ¬ (L.length : Int) < (X.length : Int) := by omega
  clear hX hL hT okA hd1 hd2 lA lC lL lI HLL
  go_enter Try.func6, Try.ntmps6
  go_wp2_with fail
  refine (F1.out).mono ?_
  rintro e w1 ⟨v1, rfl, o1, q1⟩
  have ra := Lib.hid (OwnW.read o1 OA.out)
  have p1 := q1
  go_wp2_with fail
  refine (K1.out _ _ ra.out).mono ?_
  rintro e w2 ⟨v2, rfl, o2, q2⟩
  have ra := Lib.hid (ra.out.on q2)
  have rx := Lib.hid (OwnW.read o2 OC.out)
  have p2 := p1.trans q2
  go_wp2_with fail
  refine (K2.out _ _ ra.out).mono ?_
  rintro e w3 ⟨v3, rfl, o3, q3⟩
  have ra := Lib.hid (ra.out.on q3)
  have rx := Lib.hid (rx.out.on q3)
  have rl := Lib.hid (OwnW.read o3 OL.out)
  have p3 := p2.trans q3
  obtain ⟨A2, c2, rfl⟩ := rx.out.form
  obtain ⟨A3, c3, rfl⟩ := rl.out.form
  go_wp2_with fail
  refine (K3.out _ _ rl.out).mono ?_
  rintro e w4 ⟨v4, rfl, o4, q4⟩
  have ra := Lib.hid (ra.out.on q4)
  have rx := Lib.hid (rx.out.on q4)
  have rl := Lib.hid (rl.out.on q4)
  have ry := Lib.hid (OwnW.read o4 OC.out)
  have p4 := p3.trans q4
  go_wp2_with fail
  refine (S1.out _ _ _ ry.out rx.out).mono ?_
  rintro e w5 ⟨rfl, d5⟩
  have q5 := d5.q
  have ra := Lib.hid (ra.out.on q5)
  have rx := Lib.hid (rx.out.on q5)
  have rl := Lib.hid (rl.out.on q5)
  clear ry
  have p5 := p4.trans q5
  go_wp2_with fail
  refine (K4.out _ _ _ ra.out rx.out).mono ?_
  rintro e w6 ⟨v6, rfl, o6, q6⟩
  have ra := Lib.hid (ra.out.on q6)
  have rx := Lib.hid (rx.out.on q6)
  have rl := Lib.hid (rl.out.on q6)
  have ry2 := Lib.hid (OwnW.read o6 OC.out)
  have p6 := p5.trans q6
  go_wp2_with fail
  refine (S1.out _ _ _ ry2.out rx.out).mono ?_
  rintro e w7 ⟨rfl, d7⟩
  have q7 := d7.q
  have ra := Lib.hid (ra.out.on q7)
  have rl := Lib.hid (rl.out.on q7)
  clear ry2 rx
  have p7 := p6.trans q7
  go_wp2_with fail
  refine (K5.out _ _ rl.out).mono ?_
  rintro e w8 ⟨v8, rfl, o8, q8⟩
  have ra := Lib.hid (ra.out.on q8)
  clear rl
  have rt := Lib.hid (OwnI.read o8 OI.out)
  have p8 := p7.trans q8
  go_wp2_with fail
  refine (K6.out _ _ ra.out).mono ?_
  rintro e w9 ⟨v9, rfl, o9, q9⟩
  have rt := Lib.hid (rt.out.on q9)
  clear ra
  have rt2 := Lib.hid (OwnI.read o9 OI.out)
  have p9 := p8.trans q9
  go_wp2_with fail
  refine (S2.out _ _ _ rt.out rt2.out).mono ?_
  rintro e w10 ⟨rfl, d10⟩
  have q10 := d10.q
  clear rt rt2
  have p10 := p9.trans q10
  go_wp2_with fail
  refine (awakeY_any _).mono ?_
  rintro e w11 ⟨rfl, q11⟩
  have p11 := p10.trans q11
  go_wp2_with fail
  go_ret
  exact ⟨rfl, p11⟩

set_option maxRecDepth 100000 in
theorem lifted (os : Os) (started : os.Started) (H : Type) (enc : TypeId × Value → H) :
    ReturnsInHanded {} Try.checked os 6 .any (Rows.changeDeadSpec.pre6 enc Try.prog Try.f6 Rows.changeDeadRow.domain false) (Rows.changeDeadSpec.post enc Try.prog Try.f6 false true false false) := by
  refine returnsInHanded_of_change (C := Try.checked) own started (by kernel_rfl) Try.func6
    (ChangeSpec.witness6 (enc := enc) (C := Try.checked) false ⟨#[], #[.slice none 0 0], []⟩ 8 (by kernel_rfl) (by kernel_rfl) (by kernel_rfl) (by kernel_rfl)) ?_
  intro W base args ds gs before hval0 hW hcnd _
  have hval : ∀ (j : Nat) t v, Try.f6.params[j]? = some t → args[j]? = some v → Value.okWide Try.prog W .any base t v := hval0
  have hW' := hW
  obtain ⟨p, q, hA0, hV, rfl, hfz, hnd⟩ := hW
  have hA : DataW.TrodAll enc Try.prog W 0 (fun _ => true) true Try.f6.params.toList args.toList ds p := hA0
  rw [Try.params6] at hA hval
  obtain ⟨v0, vs0, d0, ds0, p0, q0, hargs, rfl, rfl, h0, r0⟩ := trodAll_cons hA
  obtain ⟨rfl, rfl, rfl⟩ := trodAll_nil r0
  obtain rfl : args = #[v0] := by cases args; simp_all
  obtain ⟨rfl, rfl⟩ := trodVars_none hV
  clear hA0 hval0
  simp only [List.append_nil] at hW'
  have hlt : ∀ x ∈ p0, x.block < W.heap.size := fun x hx => by simpa using hW'.lt x (by simpa using hx)
  obtain ⟨l0, t0, z0⟩ := open_ntes (hval 0 22 v0 rfl rfl) h0
  refine (walk l0 v0 W t0 z0).mono fun e W' ⟨he, bel⟩ => ?_
  subst he
  refine ⟨_, rfl, _, _, _, [], _, [], hW', trodAll_mk1 (shut_bool Try.underlying4 _), (trodAll_cons_mk (Below.trod laid (by kernel_rfl) (of_decide_eq_true (by kernel_rfl)) h0 bel (fun x hx => hlt x (by simp [hx]))) trodAll_mk0), rfl, Below.frame bel _, fun h => by cases h⟩

theorem over : Rows.changeDeadRow.holds Try.pinned (OpenSpec.ofChange Rows.changeDeadSpec) :=
  OpenClaim.holds_of_wide 6 Try.f6 rfl rfl rfl rfl rfl rfl rfl ⟨rfl, rfl, rfl, rfl, rfl⟩ rfl rfl rfl rfl rfl (by kernel_rfl) Try.func6 (by kernel_rfl)
    (of_decide_eq_true (by kernel_rfl)) (by unfold Func.isWrapper; first | (rw [if_pos (by decide +kernel)]; kernel_rfl) | (rw [if_neg (by decide +kernel)]; exact ⟨rfl, rfl⟩))
    (fun os started H enc _ => lifted os started H enc)

theorem proved : Rows.ChangeDeadSaid := over
#print axioms proved
end Go.Proofs.Ythlbpjopkaninaa.changeDead
