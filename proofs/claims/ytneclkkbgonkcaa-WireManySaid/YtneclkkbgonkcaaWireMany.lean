/-
  Proved: whatever number WireMany is called with, it returns true. No condition.
-/
import Derived.Test.YtneclkkbgonkcaaWAwake
import Derived.Test.YtneclkkbgonkcaaWPlain
import Derived.Test.YtneclkkbgonkcaaCoreOpen
namespace Go.Proofs.Ytneclkkbgonkcaa.wireMany
open Go.ChangeShapes Go.WideShapes Go.ChangeAt Go.RowKit
open Go.ChangeMaps (open_string shut_string)
set_option linter.unusedVariables false

attribute [local irreducible] lst tx oct okL texts few

theorem info_u8' : (Try.prog.info? 5).map (fun i => (i.zero, i.size, i.bytes)) = some (some (.int .u8 0), 1, 1) := info_u8
theorem grown_q {w w' : World} (g : w.grownBy w' none) : Q w w' := (Below.refl _ _).grown g (Nat.le_refl _) (fun k h => by cases h)
theorem made_strs {w x : World} {base k : Nat} {v : Value} (hb : base ≤ w.heap.size) (o : x.ownsRow base 9 1 v k (madeCells (Value.cells (.string ⟨#[]⟩)) (k * 1)).toList) (g : w.grownBy x none) :
    Txts x x.heap.size v (List.replicate k ⟨#[]⟩) ∧ Q w x := by
  refine ⟨?_, grown_q g⟩
  have e : (madeCells (Value.cells (.string ⟨#[]⟩)) (k * 1)).toList = (List.replicate k (⟨#[]⟩ : ByteArray)).map Value.string := by
    rw [Nat.mul_one, List.map_replicate]; exact toList_madeCells_one _ _
  rw [e] at o
  exact Txts.own o
theorem made_octs {w x : World} {base k : Nat} {v : Value} (hb : base ≤ w.heap.size) (hk : 0 < k) (o : x.ownsRow base 5 1 v k (madeCells (Value.cells (.int .u8 0)) (k * 1)).toList) (g : w.grownBy x none) :
    (convert 54 9 v).run Try.prog x = .ok (.string (mk (List.replicate k 0))) x ∧ Q w x := by
  refine ⟨?_, grown_q g⟩
  have e : (madeCells (Value.cells (.int .u8 0)) (k * 1)).toList = Lib.byteCells (List.replicate k 0) := by
    rw [Nat.mul_one, Lib.byteCells, List.map_replicate]; exact toList_madeCells_one _ _
  rw [e] at o
  have o' : Own base x v (List.replicate k 0) := by unfold Own; rw [List.length_replicate]; exact o
  exact conv_own o' (by rw [List.length_replicate]; exact hk)
theorem flat_rep (k : Nat) : ((List.replicate k (⟨#[]⟩ : ByteArray)).flatMap tx).length = 2 * k := by
  induction k with
  | zero => simp
  | succ k ih => rw [List.replicate_succ, List.flatMap_cons, List.length_append, ih, tx_length]; simp [no_size]; omega
theorem lst_rep (k : Nat) : (mk (lst (List.replicate k ⟨#[]⟩))).size = 2 + 2 * k := by
  unfold lst
  rw [mk_size, List.length_append, oct_length, flat_rep]

set_option maxHeartbeats 4000000 in
set_option maxRecDepth 100000 in
theorem walk (a0 : Int) (w0 : (Lit.int .u8 a0).wf = true) (w : World) :
    Calls Try.prog 9 #[.int .u8 a0] w fun e w' => e = .returned (.bool true) ∧ Q w w' := by
  have hx : 0 ≤ a0 ∧ a0 ≤ 255 := by simpa [Lit.wf, IntKind.min, IntKind.max, IntKind.signed, IntKind.bits] using w0
  obtain ⟨hx0, hx1⟩ := hx
  clear w0
  obtain ⟨i0, hi0, hz0, hz1, hz2⟩ := info_parts info_str
  obtain ⟨j0, hj0, hy0, hy1, hy2⟩ := info_parts info_u8'
  obtain ⟨k, hk⟩ : ∃ k : Nat, (3998 : Int) + a0 % 5 = k := ⟨(3998 + a0 % 5).toNat, by omega⟩
  have hk1 : 3998 ≤ k := by omega
  have hk2 : k ≤ 4002 := by omega
  have E1 := Lib.hid hk
  have z1 : ∀ s ∈ List.replicate k (⟨#[]⟩ : ByteArray), s.size ≤ 5000 := fun s h => by rw [List.eq_of_mem_replicate h]; exact Nat.zero_le _
  have hl := lst_rep k
  have hr : (mk (List.replicate k 0)).size = k := by rw [mk_size, List.length_replicate]
  have T1 := Lib.hid fun w => text_any (mk (List.replicate k 0)) w (by rw [hr]; omega)
  rw [hr] at T1
  have hxl : (mk (tx (mk (List.replicate k 0)))).size = 2 + k := by rw [mk_size, tx_length, hr]
  have n0 : (⟨#[]⟩ : ByteArray).toList = [] := by kernel_rfl
  obtain ⟨B, hB⟩ : ∃ B, B = mk (List.replicate k 0) := ⟨_, rfl⟩
  by_cases hgt : 4000 < k
  · have V1 := Lib.hid (lstV_no (l := List.replicate k ⟨#[]⟩) (okL_long (by rw [List.length_replicate]; exact hgt)))
    rw [if_neg (by omega)] at T1
    have hgi : (4000 : Int) < (k : Int) := by omega
    clear hl hr hxl hB
    go_enter Try.func9, Try.ntmps9
    go_wp2_with (at_make; refine wpList_make_full _ rfl _ _ 23 rfl w.heap.size 9 i0 (.string ⟨#[]⟩) 1 Try.underlying23 hi0 hz0 hz1 .i64 .i64 _ _ k rfl rfl (by first | rfl | exact E1.out | omega) (by first | rfl | exact E1.out | omega) (by rw [hz2]; omega) (by unfold maxLen; omega) (Nat.le_refl _) ?_; intro x1 o1 g1; refine Hid.out ?_)
    refine Lib.hid ?_
    obtain ⟨u1, q1⟩ := made_strs (Nat.le_refl _) o1 g1
    clear o1 g1
    go_wp2_with fail
    refine (list_any _ _ _ (by rw [List.length_replicate]; omega) z1 u1).mono ?_
    rintro e x2 ⟨rfl, q2⟩
    rw [V1.out]
    go_wp2_with (at_make; refine wpList_make_full _ rfl _ _ 54 rfl x2.heap.size 5 j0 (.int .u8 0) 1 Try.underlying54 hj0 hy0 hy1 .i64 .i64 _ _ k rfl rfl (by first | rfl | exact E1.out | omega) (by first | rfl | exact E1.out | omega) (by rw [hy2]; omega) (by unfold maxLen; omega) (Nat.le_refl _) ?_; intro x3 o3 g3; refine Hid.out ?_)
    refine Lib.hid ?_
    obtain ⟨u3, q3⟩ := made_octs (Nat.le_refl _) (by omega) o3 g3
    clear o3 g3
    go_wp2_with fail
    refine (T1.out _).mono ?_
    rintro e x4 ⟨rfl, q4⟩
    go_wp2_with fail
    refine (awake_any _).mono ?_
    rintro e x9 ⟨rfl, q9⟩
    go_wp2
    go_ret
    exact ⟨rfl, ((((q1.trans q2).trans q3).trans q4)).trans q9⟩
  · have ok : okL (List.replicate k ⟨#[]⟩) = true := okL_iff.2 ⟨by rw [List.length_replicate]; omega, fun s h => by rw [List.eq_of_mem_replicate h]; exact Nat.zero_le _⟩
    have V1 := Lib.hid (lstV_yes ok)
    have W1 := Lib.hid fun w => whole_any (mk (lst (List.replicate k ⟨#[]⟩))) w (by rw [hl]; omega)
    rw [whl_all ok] at W1
    rw [if_pos (by omega)] at T1
    obtain ⟨S, hS⟩ : ∃ S, S = mk (lst (List.replicate k ⟨#[]⟩)) := ⟨_, rfl⟩
    obtain ⟨X, hX⟩ : ∃ X, X = mk (tx (mk (List.replicate k 0))) := ⟨_, rfl⟩
    rw [← hS] at V1 W1 hl
    rw [← hX] at T1 hxl
    have hl' : (S.size : Int) = 2 + 2 * (k : Int) := by omega
    have hx' : (X.size : Int) = 2 + (k : Int) := by omega
    clear hl hr hxl hB hS hX ok
    go_enter Try.func9, Try.ntmps9
    go_wp2_with (at_make; refine wpList_make_full _ rfl _ _ 23 rfl w.heap.size 9 i0 (.string ⟨#[]⟩) 1 Try.underlying23 hi0 hz0 hz1 .i64 .i64 _ _ k rfl rfl (by first | rfl | exact E1.out | omega) (by first | rfl | exact E1.out | omega) (by rw [hz2]; omega) (by unfold maxLen; omega) (Nat.le_refl _) ?_; intro x1 o1 g1; refine Hid.out ?_)
    refine Lib.hid ?_
    obtain ⟨u1, q1⟩ := made_strs (Nat.le_refl _) o1 g1
    clear o1 g1
    go_wp2_with fail
    refine (list_any _ _ _ (by rw [List.length_replicate]; omega) z1 u1).mono ?_
    rintro e x2 ⟨rfl, q2⟩
    rw [V1.out]
    go_wp2_with (at_make; refine wpList_make_full _ rfl _ _ 54 rfl x2.heap.size 5 j0 (.int .u8 0) 1 Try.underlying54 hj0 hy0 hy1 .i64 .i64 _ _ k rfl rfl (by first | rfl | exact E1.out | omega) (by first | rfl | exact E1.out | omega) (by rw [hy2]; omega) (by unfold maxLen; omega) (Nat.le_refl _) ?_; intro x3 o3 g3; refine Hid.out ?_)
    refine Lib.hid ?_
    obtain ⟨u3, q3⟩ := made_octs (Nat.le_refl _) (by omega) o3 g3
    clear o3 g3
    go_wp2_with fail
    refine (T1.out _).mono ?_
    rintro e x4 ⟨rfl, q4⟩
    go_wp2_with fail
    refine (W1.out _).mono ?_
    rintro e x5 ⟨A5, n5, c5, rfl, t5, q5⟩
    have hn := t5.len
    rw [List.length_replicate] at hn
    subst hn
    clear t5
    go_wp2_with fail
    refine (awake_any _).mono ?_
    rintro e x9 ⟨rfl, q9⟩
    go_wp2
    go_ret
    exact ⟨rfl, (((((q1.trans q2).trans q3).trans q4).trans q5)).trans q9⟩

set_option maxRecDepth 100000 in
theorem lifted (os : Os) (started : os.Started) (H : Type) (enc : TypeId × Value → H) :
    ReturnsInHanded {} Try.checked os 9 .any (Rows.wireManySpec.pre6 enc Try.prog Try.f9 Rows.wireManyRow.domain false) (Rows.wireManySpec.post enc Try.prog Try.f9 false true false false) := by
  refine returnsInHanded_of_change (C := Try.checked) own started (by kernel_rfl) Try.func9
    (ChangeSpec.witness6 (enc := enc) (C := Try.checked) false ⟨#[], #[.int .u8 0], []⟩ 8 (by kernel_rfl) (by kernel_rfl) (by kernel_rfl) (by kernel_rfl)) ?_
  intro W base args ds gs before hval0 hW hcnd _
  have hval : ∀ (j : Nat) t v, Try.f9.params[j]? = some t → args[j]? = some v → Value.okWide Try.prog W .any base t v := hval0
  have hW' := hW
  obtain ⟨p, q, hA0, hV, rfl, hfz, hnd⟩ := hW
  have hA : DataW.TrodAll enc Try.prog W 0 (fun _ => true) true Try.f9.params.toList args.toList ds p := hA0
  rw [Try.params9] at hA hval
  obtain ⟨v0, vs0, d0, ds0, p0, q0, hargs, rfl, rfl, h0, r0⟩ := trodAll_cons hA
  obtain ⟨rfl, rfl, rfl⟩ := trodAll_nil r0
  obtain rfl : args = #[v0] := by cases args; simp_all
  obtain ⟨rfl, rfl⟩ := trodVars_none hV
  clear hA0 hval0
  simp only [List.append_nil] at hW'
  have hlt : ∀ x ∈ p0, x.block < W.heap.size := fun x hx => by simpa using hW'.lt x (by simpa using hx)
  obtain ⟨a0, rfl, -, -, w0⟩ := open_int Try.underlying5 (hval 0 5 v0 rfl rfl) h0
  refine (walk a0 w0 W).mono fun e W' ⟨he, bel⟩ => ?_
  subst he
  refine ⟨_, rfl, _, _, _, [], _, [], hW', trodAll_mk1 (shut_bool Try.underlying4 _), (trodAll_cons_mk (Below.trod laid (by kernel_rfl) (of_decide_eq_true (by kernel_rfl)) h0 bel (fun x hx => hlt x (by simp [hx]))) trodAll_mk0), rfl, Below.frame bel _, fun h => by cases h⟩

theorem over : Rows.wireManyRow.holds Try.pinned (OpenSpec.ofChange Rows.wireManySpec) :=
  OpenClaim.holds_of_wide 9 Try.f9 rfl rfl rfl rfl rfl rfl rfl ⟨rfl, rfl, rfl, rfl, rfl⟩ rfl rfl rfl rfl rfl (by kernel_rfl) Try.func9 (by kernel_rfl)
    (of_decide_eq_true (by kernel_rfl)) (by unfold Func.isWrapper; first | (rw [if_pos (by decide +kernel)]; kernel_rfl) | (rw [if_neg (by decide +kernel)]; exact ⟨rfl, rfl⟩))
    (fun os started H enc _ => lifted os started H enc)

theorem proved : Rows.WireManySaid := over
#print axioms proved
end Go.Proofs.Ytneclkkbgonkcaa.wireMany
