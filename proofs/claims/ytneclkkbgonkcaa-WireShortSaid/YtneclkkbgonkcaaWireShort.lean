/-
  Proved: whatever list of texts and number WireShort is called with, it returns true and leaves what it was given as it was. No condition.
-/
import Derived.Test.YtneclkkbgonkcaaWAwake
import Derived.Test.YtneclkkbgonkcaaWPlain
import Derived.Test.YtneclkkbgonkcaaCoreOpen
namespace Go.Proofs.Ytneclkkbgonkcaa.wireShort
open Go.ChangeShapes Go.WideShapes Go.ChangeAt Go.RowKit
open Go.ChangeMaps (open_string shut_string)
set_option linter.unusedVariables false

attribute [local irreducible] lst tx oct okL texts few

theorem nat16 {a : Int} (h : (Lit.int .u16 a).wf = true) : ∃ n : Nat, a = n ∧ n < 65536 := by
  have : 0 ≤ a ∧ a ≤ 65535 := by simpa [Lit.wf, IntKind.min, IntKind.max, IntKind.signed, IntKind.bits] using h
  exact ⟨a.toNat, by omega, by omega⟩

set_option maxHeartbeats 4000000 in
set_option maxRecDepth 100000 in
theorem walk (a0 : List ByteArray) (v0 : Value) (a1 : Int) (w : World) (t0 : Txts w w.heap.size v0 a0) (w0 : a0.length ≤ maxLen) (s0 : ∀ s ∈ a0, s.size ≤ maxLen) (w1 : (Lit.int .u16 a1).wf = true) :
    Calls Try.prog 6 #[v0, .int .u16 a1] w fun e w' => e = .returned (.bool true) ∧ Q w w' := by
  obtain ⟨n, rfl, hn⟩ := nat16 w1
  clear w1
  have k1 := texts_len a0
  have S1 := Lib.hid (texts_size a0)
  have l1 : (texts a0).length ≤ 1000000 := by omega
  have z1 : ∀ s ∈ texts a0, s.size ≤ 5000 := fun s h => Nat.le_trans (S1.out s h) (show 4100 ≤ 5000 by omega)
  cases h1 : okL (texts a0) with
  | false =>
    have V1 := Lib.hid (lstV_no h1)
    clear h1
    go_enter Try.func6, Try.ntmps6
    go_wp2_with fail
    refine (texts_any a0 _ _ w0 s0 t0).mono ?_
    rintro e x1 ⟨A1, n1, c1, rfl, o1, q1⟩
    have u1 := Txts.own o1
    clear t0 o1
    go_wp2_with fail
    refine (list_any _ _ _ l1 z1 u1).mono ?_
    rintro e x2 ⟨rfl, q2⟩
    rw [V1.out]
    go_wp2_with fail
    refine (awake_any _).mono ?_
    rintro e x9 ⟨rfl, q9⟩
    go_wp2
    go_ret
    exact ⟨rfl, (q1.trans q2).trans q9⟩
  | true =>
    have V1 := Lib.hid (lstV_yes h1)
    have y1 := lst_size (l := texts a0) (by omega) S1.out
    have hsz : (mk (lst (texts a0))).size = (lst (texts a0)).length := mk_size _
    have hpos : 0 < (mk (lst (texts a0))).size := by rw [hsz]; unfold lst; rw [List.length_append, oct_length]; omega
    have hmod : n % (mk (lst (texts a0))).size < (mk (lst (texts a0))).size := Nat.mod_lt _ hpos
    have HT := Lib.hid (tls_short h1 (m := n % (mk (lst (texts a0))).size) (by rw [← hsz]; exact hmod))
    have HX : Hid (mk ((lst (texts a0)).take (n % (mk (lst (texts a0))).size)) = (mk (lst (texts a0))).extract 0 (n % (mk (lst (texts a0))).size)) := Lib.hid (by rw [mk_extract, List.drop_zero, Nat.sub_zero])
    rw [HX.out] at HT
    clear HX hsz h1
    obtain ⟨S, hS⟩ : ∃ S, S = mk (lst (texts a0)) := ⟨_, rfl⟩
    rw [← hS] at V1 y1 hpos hmod HT
    clear hS
    obtain ⟨m, hm⟩ : ∃ m, m = n % S.size := ⟨_, rfl⟩
    rw [← hm] at hmod HT
    have hx : (S.extract 0 m).size ≤ 1000000000 := by rw [size_cut _ (by omega)]; omega
    have C := Lib.hid fun w => takeList_any (S.extract 0 m) w hx
    rw [HT.out] at C
    clear hx HT
    have e0 : ((S.size : Int) == 0) = false := beq_false_of_ne (by omega)
    have e1 : (n : Int) % (S.size : Int) = (m : Int) := by rw [hm]; simp
    have e2 : n % S.size = m := hm.symm
    clear hm
    have n0 : (⟨#[]⟩ : ByteArray).toList = [] := by kernel_rfl
    go_enter Try.func6, Try.ntmps6
    go_wp2_with fail
    refine (texts_any a0 _ _ w0 s0 t0).mono ?_
    rintro e x1 ⟨A1, n1, c1, rfl, o1, q1⟩
    have u1 := Txts.own o1
    clear t0 o1
    go_wp2_with fail
    refine (list_any _ _ _ l1 z1 u1).mono ?_
    rintro e x2 ⟨rfl, q2⟩
    rw [V1.out]
    go_wp2_with fail
    refine (C.out _).mono ?_
    rintro e x3 ⟨A3, n3, c3, rfl, t3, q3⟩
    obtain rfl := t3.len
    clear t3
    go_wp2_with fail
    refine (awake_any _).mono ?_
    rintro e x9 ⟨rfl, q9⟩
    go_wp2
    go_ret
    exact ⟨rfl, ((q1.trans q2).trans q3).trans q9⟩

set_option maxRecDepth 100000 in
theorem lifted (os : Os) (started : os.Started) (H : Type) (enc : TypeId × Value → H) :
    ReturnsInHanded {} Try.checked os 6 .any (Rows.wireShortSpec.pre6 enc Try.prog Try.f6 Rows.wireShortRow.domain false) (Rows.wireShortSpec.post enc Try.prog Try.f6 false true false false) := by
  refine returnsInHanded_of_change (C := Try.checked) own started (by kernel_rfl) Try.func6
    (ChangeSpec.witness6 (enc := enc) (C := Try.checked) false ⟨#[], #[.slice none 0 0, .int .u16 0], []⟩ 8 (by kernel_rfl) (by kernel_rfl) (by kernel_rfl) (by kernel_rfl)) ?_
  intro W base args ds gs before hval0 hW hcnd _
  have hval : ∀ (j : Nat) t v, Try.f6.params[j]? = some t → args[j]? = some v → Value.okWide Try.prog W .any base t v := hval0
  have hW' := hW
  obtain ⟨p, q, hA0, hV, rfl, hfz, hnd⟩ := hW
  have hA : DataW.TrodAll enc Try.prog W 0 (fun _ => true) true Try.f6.params.toList args.toList ds p := hA0
  rw [Try.params6] at hA hval
  obtain ⟨v0, vs0, d0, ds0, p0, q0, hargs, rfl, rfl, h0, r0⟩ := trodAll_cons hA
  obtain ⟨v1, vs1, d1, ds1, p1, q1, rfl, rfl, rfl, h1, r1⟩ := trodAll_cons r0
  obtain ⟨rfl, rfl, rfl⟩ := trodAll_nil r1
  obtain rfl : args = #[v0, v1] := by cases args; simp_all
  obtain ⟨rfl, rfl⟩ := trodVars_none hV
  clear hA0 hval0
  simp only [List.append_nil] at hW'
  have hlt : ∀ x ∈ p0 ++ p1, x.block < W.heap.size := fun x hx => by simpa using hW'.lt x (by simpa using hx)
  obtain ⟨a0, t0, w0, s0⟩ := open_txts (hval 0 23 v0 rfl rfl) h0
  obtain ⟨a1, rfl, -, -, w1⟩ := open_int Try.underlying51 (hval 1 51 v1 rfl rfl) h1
  refine (walk a0 v0 a1 W t0 w0 s0 w1).mono fun e W' ⟨he, bel⟩ => ?_
  subst he
  refine ⟨_, rfl, _, _, _, [], _, [], hW', trodAll_mk1 (shut_bool Try.underlying4 _), (trodAll_cons_mk (Below.trod laid (by kernel_rfl) (of_decide_eq_true (by kernel_rfl)) h0 bel (fun x hx => hlt x (by simp [hx]))) (trodAll_cons_mk (Below.trod laid (by kernel_rfl) (of_decide_eq_true (by kernel_rfl)) h1 bel (fun x hx => hlt x (by simp [hx]))) trodAll_mk0)), rfl, Below.frame bel _, fun h => by cases h⟩

theorem over : Rows.wireShortRow.holds Try.pinned (OpenSpec.ofChange Rows.wireShortSpec) :=
  OpenClaim.holds_of_wide 6 Try.f6 rfl rfl rfl rfl rfl rfl rfl ⟨rfl, rfl, rfl, rfl, rfl⟩ rfl rfl rfl rfl rfl (by kernel_rfl) Try.func6 (by kernel_rfl)
    (of_decide_eq_true (by kernel_rfl)) (by unfold Func.isWrapper; first | (rw [if_pos (by decide +kernel)]; kernel_rfl) | (rw [if_neg (by decide +kernel)]; exact ⟨rfl, rfl⟩))
    (fun os started H enc _ => lifted os started H enc)

theorem proved : Rows.WireShortSaid := over
#print axioms proved
end Go.Proofs.Ytneclkkbgonkcaa.wireShort
