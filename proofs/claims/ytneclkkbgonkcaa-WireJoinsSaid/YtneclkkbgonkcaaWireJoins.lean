/-
  Proved: whatever two lists of texts WireJoins is called with, it returns true and leaves what it was given as it was. No condition.
-/
import Derived.Test.YtneclkkbgonkcaaWAwake
import Derived.Test.YtneclkkbgonkcaaWPlain
import Derived.Test.YtneclkkbgonkcaaCoreOpen
namespace Go.Proofs.Ytneclkkbgonkcaa.wireJoins
open Go.ChangeShapes Go.WideShapes Go.ChangeAt Go.RowKit
open Go.ChangeMaps (open_string shut_string)
set_option linter.unusedVariables false

/-- append of a row of texts to a row of texts, both the call's own. -/
theorem run_append_txts (w : World) (base b2 : Nat) (ty : TypeId) (v : Value) (l m : List ByteArray) {A : Option Addr} {n c : Nat} (h : w.ownsRow base 9 1 v l.length (l.map Value.string))
    (g : w.ownsRow b2 9 1 (.slice A n c) m.length (m.map Value.string)) (hb : base ≤ w.heap.size) (hl : l.length + m.length ≤ 1000000) :
    ∃ v' w', (Builtin.append_ #[23, 23] ty #[v, .slice A n c]).run Try.prog w = .ok v' w' ∧ w'.ownsRow base 9 1 v' (l ++ m).length ((l ++ m).map Value.string) ∧ w.grownBy w' v.ownBlock := by
  obtain ⟨i0, hi0, hz0, hz1, hz2⟩ := info_parts info_str
  rcases g.2 with ⟨e, h0⟩ | ⟨k, cap, cur, e, -, hk, -⟩
  · rw [e]
    have hm : m = [] := List.length_eq_zero_iff.1 h0
    subst hm
    exact ⟨v, w, run_append_owned_none (P := Try.prog) (w := w) base 23 ty 9 i0 1 Try.underlying23 hi0 v _ _ h, by simpa using h, World.grownBy.refl w _⟩
  · injection e with e1 e2 e3
    subst e1 e2 e3
    obtain ⟨v', w', h1, h2, h3, -⟩ := run_append_own (P := Try.prog) w base 23 ty 9 i0 (.string ⟨#[]⟩) 1 16 Try.underlying23 hi0 hz0 hz1 hz2 rfl (by decide) v l.length (l.map Value.string) h ⟨k, 0, none⟩ m.length c (m.map Value.string) (by simp) (World.ownsRow.cells (g := k) g rfl) (by intro u hu; obtain ⟨s, -, rfl⟩ := List.mem_map.1 hu; rfl) (by unfold maxLen; omega) (by omega) hb
    exact ⟨v', w', h1, by rw [List.length_append, List.map_append]; exact h2, h3⟩
theorem wpList_append_txts {ops : Array Oper} {rest : List Oper} {o : Oper} {a : Act} {Q : Exit → Act → World → Prop} (w : World) (hgd : o.guard = none) (s x : Operand)
    (ho : o.op = .call { callee := .builtin .append, args := #[s, x], argTypes := #[23, 23] })
    (base b2 : Nat) (v : Value) (l m : List ByteArray) {A : Option Addr} {n c : Nat} (hs : a.eval s = v) (hx : a.eval x = .slice A n c) (h : w.ownsRow base 9 1 v l.length (l.map Value.string))
    (g : w.ownsRow b2 9 1 (.slice A n c) m.length (m.map Value.string)) (hb : base ≤ w.heap.size) (hl : l.length + m.length ≤ 1000000)
    (k : ∀ v' w', w'.ownsRow base 9 1 v' (l ++ m).length ((l ++ m).map Value.string) → w.grownBy w' v.ownBlock → wpList Try.prog ops Q rest (a.put o.dst v') w') : wpList Try.prog ops Q (o :: rest) a w := by
  refine wpList_plain hgd fun K hK => ?_
  obtain ⟨v', w', h1, h2, h3⟩ := run_append_txts w base b2 o.type v l m h g hb hl
  unfold Oper.wp execOp
  simp only [ho, resolve, invoke, builtin, Sem.run_bind, Sem.run_pure, Result.andThen_ok, List.map_toArray, List.map_cons, List.map_nil, hs, hx, h1]
  exact hK _ _ (k v' w' h2 h3)
theorem empty_own (w : World) (base : Nat) (hb : base ≤ w.heap.size) : (w.alloc (.cells #[] 9)).ownsRow base 9 1 (.slice (some ⟨w.heap.size, 0, none⟩) 0 0) ([] : List ByteArray).length (([] : List ByteArray).map Value.string) :=
  World.ownsRow_made w #[] 0 hb (by unfold maxLen; omega) (by simp)
theorem own_kept {w w' : World} {base b2 : Nat} {v u : Value} {n m : Nat} {xs ys : List Value} {e f : TypeId} (h : w.ownsRow base e 1 v n xs) (g : w.grownBy w' u.ownBlock) (ho : w.ownsRow b2 f 1 u m ys) (hb : ∀ k, v.ownBlock = some k → k < b2) : w'.ownsRow base e 1 v n xs := by
  refine h.kept g ?_
  cases hv : v.ownBlock with
  | none => exact .inl rfl
  | some k =>
    right
    intro e
    have h1 := hb k hv
    have h2 := (World.ownsRow.lt ho k e.symm).1
    omega
theorem lst_joins (a b : List ByteArray) : (mk (lst (a ++ b))).size + 2 = (mk (lst a)).size + (mk (lst b)).size := by
  simp only [mk_size, lst, List.length_append, List.flatMap_append, oct_length]; omega
theorem okL_joins {a b : List ByteArray} (ha : okL a = true) (hb : okL b = true) (hl : a.length + b.length ≤ 4000) : okL (a ++ b) = true := by
  obtain ⟨-, h1⟩ := okL_iff.1 ha
  obtain ⟨-, h2⟩ := okL_iff.1 hb
  exact okL_iff.2 ⟨by rw [List.length_append]; exact hl, fun s h => (List.mem_append.1 h).elim (h1 s) (h2 s)⟩
attribute [local irreducible] lst tx oct okL texts few

set_option maxHeartbeats 4000000 in
set_option maxRecDepth 100000 in
theorem walk (a0 : List ByteArray) (v0 : Value) (a1 : List ByteArray) (v1 : Value) (w : World) (t0 : Txts w w.heap.size v0 a0) (w0 : a0.length ≤ maxLen) (s0 : ∀ s ∈ a0, s.size ≤ maxLen)
    (t1 : Txts w w.heap.size v1 a1) (w1 : a1.length ≤ maxLen) (s1 : ∀ s ∈ a1, s.size ≤ maxLen) :
    Calls Try.prog 8 #[v0, v1] w fun e w' => e = .returned (.bool true) ∧ Q w w' := by
  have k1 := texts_len a0
  have k2 := texts_len a1
  have S1 := Lib.hid (texts_size a0); have S2 := Lib.hid (texts_size a1)
  have l1 : (texts a0).length ≤ 1000000 := by omega
  have l2 : (texts a1).length ≤ 1000000 := by omega
  have z1 : ∀ s ∈ texts a0, s.size ≤ 5000 := fun s h => Nat.le_trans (S1.out s h) (show 4100 ≤ 5000 by omega)
  have z2 : ∀ s ∈ texts a1, s.size ≤ 5000 := fun s h => Nat.le_trans (S2.out s h) (show 4100 ≤ 5000 by omega)
  cases h1 : okL (texts a0) with
  | false =>
    have V1 := Lib.hid (lstV_no h1)
    cases h2 : okL (texts a1) with
    | false =>
      have V2 := Lib.hid (lstV_no h2)
      clear h1 h2
      go_enter Try.func8, Try.ntmps8
      go_wp2_with fail
      refine (texts_any a0 _ _ w0 s0 t0).mono ?_
      rintro e x1 ⟨A1, n1, c1, rfl, o1, q1⟩
      have t2 := t1.on q1
      have u1 := Txts.own o1
      clear t1 t0
      go_wp2_with fail
      refine (texts_any a1 _ _ w1 s1 t2).mono ?_
      rintro e x2 ⟨A2, n2, c2, rfl, o2, q2⟩
      have u2 := Txts.own o2
      have u3 := u1.on q2
      have o3 := own_on (B := 0) o1 q2
      clear t2 u1 o1
      go_wp2_with fail
      refine (list_any _ _ _ l1 z1 u3).mono ?_
      rintro e x3 ⟨rfl, q3⟩
      have u4 := u2.on q3
      have u5 := u3.on q3
      have o4 := own_on (B := 0) o2 q3
      have o5 := own_on (B := 0) o3 q3
      clear u2 u3 o2 o3
      rw [V1.out]
      go_wp2_with fail
      refine (list_any _ _ _ l2 z2 u4).mono ?_
      rintro e x4 ⟨rfl, q4⟩
      have u6 := u4.on q4
      have u7 := u5.on q4
      have o6 := own_on (B := 0) o4 q4
      have o7 := own_on (B := 0) o5 q4
      clear u4 u5 o4 o5
      rw [V2.out]
      go_wp2_with fail
      refine (awake_any _).mono ?_
      rintro e x9 ⟨rfl, q9⟩
      go_wp2
      go_ret
      exact ⟨rfl, ((((q1.trans q2).trans q3).trans q4)).trans q9⟩
    | true =>
      have V2 := Lib.hid (lstV_yes h2)
      clear h1 h2
      go_enter Try.func8, Try.ntmps8
      go_wp2_with fail
      refine (texts_any a0 _ _ w0 s0 t0).mono ?_
      rintro e x1 ⟨A1, n1, c1, rfl, o1, q1⟩
      have t2 := t1.on q1
      have u1 := Txts.own o1
      clear t1 t0
      go_wp2_with fail
      refine (texts_any a1 _ _ w1 s1 t2).mono ?_
      rintro e x2 ⟨A2, n2, c2, rfl, o2, q2⟩
      have u2 := Txts.own o2
      have u3 := u1.on q2
      have o3 := own_on (B := 0) o1 q2
      clear t2 u1 o1
      go_wp2_with fail
      refine (list_any _ _ _ l1 z1 u3).mono ?_
      rintro e x3 ⟨rfl, q3⟩
      have u4 := u2.on q3
      have u5 := u3.on q3
      have o4 := own_on (B := 0) o2 q3
      have o5 := own_on (B := 0) o3 q3
      clear u2 u3 o2 o3
      rw [V1.out]
      go_wp2_with fail
      refine (list_any _ _ _ l2 z2 u4).mono ?_
      rintro e x4 ⟨rfl, q4⟩
      have u6 := u4.on q4
      have u7 := u5.on q4
      have o6 := own_on (B := 0) o4 q4
      have o7 := own_on (B := 0) o5 q4
      clear u4 u5 o4 o5
      rw [V2.out]
      go_wp2_with fail
      refine (awake_any _).mono ?_
      rintro e x9 ⟨rfl, q9⟩
      go_wp2
      go_ret
      exact ⟨rfl, ((((q1.trans q2).trans q3).trans q4)).trans q9⟩
  | true =>
    have V1 := Lib.hid (lstV_yes h1)
    cases h2 : okL (texts a1) with
    | false =>
      have V2 := Lib.hid (lstV_no h2)
      clear h1 h2
      go_enter Try.func8, Try.ntmps8
      go_wp2_with fail
      refine (texts_any a0 _ _ w0 s0 t0).mono ?_
      rintro e x1 ⟨A1, n1, c1, rfl, o1, q1⟩
      have t2 := t1.on q1
      have u1 := Txts.own o1
      clear t1 t0
      go_wp2_with fail
      refine (texts_any a1 _ _ w1 s1 t2).mono ?_
      rintro e x2 ⟨A2, n2, c2, rfl, o2, q2⟩
      have u2 := Txts.own o2
      have u3 := u1.on q2
      have o3 := own_on (B := 0) o1 q2
      clear t2 u1 o1
      go_wp2_with fail
      refine (list_any _ _ _ l1 z1 u3).mono ?_
      rintro e x3 ⟨rfl, q3⟩
      have u4 := u2.on q3
      have u5 := u3.on q3
      have o4 := own_on (B := 0) o2 q3
      have o5 := own_on (B := 0) o3 q3
      clear u2 u3 o2 o3
      rw [V1.out]
      go_wp2_with fail
      refine (list_any _ _ _ l2 z2 u4).mono ?_
      rintro e x4 ⟨rfl, q4⟩
      have u6 := u4.on q4
      have u7 := u5.on q4
      have o6 := own_on (B := 0) o4 q4
      have o7 := own_on (B := 0) o5 q4
      clear u4 u5 o4 o5
      rw [V2.out]
      go_wp2_with fail
      refine (awake_any _).mono ?_
      rintro e x9 ⟨rfl, q9⟩
      go_wp2
      go_ret
      exact ⟨rfl, ((((q1.trans q2).trans q3).trans q4)).trans q9⟩
    | true =>
      have V2 := Lib.hid (lstV_yes h2)
      have y1 := lst_size (l := texts a0) (by omega) S1.out
      have y2 := lst_size (l := texts a1) (by omega) S2.out
      have l3 : (texts a0 ++ texts a1).length ≤ 1000000 := by rw [List.length_append]; omega
      have z3 : ∀ s ∈ texts a0 ++ texts a1, s.size ≤ 5000 := fun s h => (List.mem_append.1 h).elim (z1 s) (z2 s)
      have V3 := Lib.hid (lstV_yes (okL_joins h1 h2 (by omega)))
      have jn := lst_joins (texts a0) (texts a1)
      have C1 := Lib.hid fun w => takeList_any (mk (lst (texts a0)) ++ mk (lst (texts a1))) w (by rw [ByteArray.size_append]; omega)
      rw [tls_lst' h1] at C1
      have C2 := Lib.hid fun w => takeList_any (mk (lst (texts a1))) w (by omega)
      rw [tls_all h2] at C2
      have n0 : (⟨#[]⟩ : ByteArray).toList = [] := by kernel_rfl
      obtain ⟨S, hS⟩ : ∃ S, S = mk (lst (texts a0)) := ⟨_, rfl⟩
      obtain ⟨T, hT⟩ : ∃ T, T = mk (lst (texts a1)) := ⟨_, rfl⟩
      obtain ⟨U, hU⟩ : ∃ U, U = mk (lst (texts a0 ++ texts a1)) := ⟨_, rfl⟩
      rw [← hS] at V1 y1 C1 jn
      rw [← hT] at V2 y2 C1 C2 jn
      rw [← hU] at V3 jn
      have jn' : (U.size : Int) = (S.size : Int) + (T.size : Int) - 2 := by omega
      clear h1 h2 hS hT hU jn
      go_enter Try.func8, Try.ntmps8
      go_wp2_with fail
      refine (texts_any a0 _ _ w0 s0 t0).mono ?_
      rintro e x1 ⟨A1, n1, c1, rfl, o1, q1⟩
      have t2 := t1.on q1
      have u1 := Txts.own o1
      clear t1 t0
      go_wp2_with fail
      refine (texts_any a1 _ _ w1 s1 t2).mono ?_
      rintro e x2 ⟨A2, n2, c2, rfl, o2, q2⟩
      have u2 := Txts.own o2
      have u3 := u1.on q2
      have o3 := own_on (B := 0) o1 q2
      clear t2 u1 o1
      go_wp2_with fail
      refine (list_any _ _ _ l1 z1 u3).mono ?_
      rintro e x3 ⟨rfl, q3⟩
      have u4 := u2.on q3
      have u5 := u3.on q3
      have o4 := own_on (B := 0) o2 q3
      have o5 := own_on (B := 0) o3 q3
      clear u2 u3 o2 o3
      rw [V1.out]
      go_wp2_with fail
      refine (list_any _ _ _ l2 z2 u4).mono ?_
      rintro e x4 ⟨rfl, q4⟩
      have u6 := u4.on q4
      have u7 := u5.on q4
      have o6 := own_on (B := 0) o4 q4
      have o7 := own_on (B := 0) o5 q4
      clear u4 u5 o4 o5
      rw [V2.out]
      go_wp2_with fail
      refine (C1.out _).mono ?_
      rintro e x5 ⟨A5, n5, c5, rfl, t5, q5⟩
      have u8 := u6.on q5
      have u9 := u7.on q5
      have o8 := own_on (B := 0) o6 q5
      have o9 := own_on (B := 0) o7 q5
      clear u6 u7 o6 o7
      go_wp2_with fail
      refine (C2.out _).mono ?_
      rintro e x6 ⟨A6, n6, c6, rfl, t6, q6⟩
      have u10 := u8.on q6
      have u11 := u9.on q6
      have t7 := t5.on q6
      have o10 := own_on (B := 0) o8 q6
      have o11 := own_on (B := 0) o9 q6
      clear u8 u9 o8 o9 t5
      go_wp2_with (first | (at_builtin; refine wpList_append_txts _ rfl (.tmp 53) (.tmp 54) rfl x6.heap.size w.heap.size _ [] (texts a0) rfl rfl (empty_own x6 _ (Nat.le_refl _)) (o11.alloc _) (by simp) (by simp; omega) ?_; intro v7 x7 o12 g7; have o13 := own_kept (o10.alloc _) g7 (empty_own x6 x6.heap.size (Nat.le_refl _)) (fun k hk => (World.ownsRow.lt o10 k hk).2); have b7 : Below x6.heap.size x6 x7 := ((Below.refl _ _).alloc (Nat.le_refl _) _).grown g7 (by simp) (fun k hk => (World.ownsRow.lt (empty_own x6 x6.heap.size (Nat.le_refl _)) k hk).1); clear g7; rw [List.nil_append] at o12) | (at_builtin; refine wpList_append_txts _ rfl (.tmp 55) (.tmp 56) rfl x6.heap.size x1.heap.size _ (texts a0) (texts a1) rfl rfl o12 o13 b7.size (by omega) ?_; intro v8 x8 o14 g8; have b8 : Below x6.heap.size x6 x8 := b7.grown g8 b7.size (fun k hk => (World.ownsRow.lt o12 k hk).1); clear g8 o12 o13 b7; have u12 := Txts.own o14))
      refine (list_any _ _ _ l3 z3 u12).mono ?_
      rintro e x10 ⟨rfl, q10⟩
      rw [V3.out]
      have q11 : Q x6 x10 := Q.trans b8 q10
      clear o14 u12 o10 o11
      have u14 := u10.on q11
      have u15 := u11.on q11
      have t8 := t7.on q11
      have t9 := t6.on q11
      clear u10 u11 t7 t6
      go_wp2_with fail
      refine (same_any _ _ _ _ _ l1 l1 t8 u15).mono ?_
      rintro e x11 ⟨rfl, q12⟩
      have t10 := t9.on q12
      have u16 := u14.on q12
      clear t8 t9 u14 u15
      go_wp2_with fail
      refine (same_any _ _ _ _ _ l2 l2 t10 u16).mono ?_
      rintro e x12 ⟨rfl, q13⟩
      go_wp2_with fail
      refine (awake_any _).mono ?_
      rintro e x9 ⟨rfl, q9⟩
      go_wp2
      go_ret
      exact ⟨rfl, ((((((((q1.trans q2).trans q3).trans q4).trans q5).trans q6).trans q11).trans q12).trans q13).trans q9⟩

set_option maxRecDepth 100000 in
theorem lifted (os : Os) (started : os.Started) (H : Type) (enc : TypeId × Value → H) :
    ReturnsInHanded {} Try.checked os 8 .any (Rows.wireJoinsSpec.pre6 enc Try.prog Try.f8 Rows.wireJoinsRow.domain false) (Rows.wireJoinsSpec.post enc Try.prog Try.f8 false true false false) := by
  refine returnsInHanded_of_change (C := Try.checked) own started (by kernel_rfl) Try.func8
    (ChangeSpec.witness6 (enc := enc) (C := Try.checked) false ⟨#[], #[.slice none 0 0, .slice none 0 0], []⟩ 8 (by kernel_rfl) (by kernel_rfl) (by kernel_rfl) (by kernel_rfl)) ?_
  intro W base args ds gs before hval0 hW hcnd _
  have hval : ∀ (j : Nat) t v, Try.f8.params[j]? = some t → args[j]? = some v → Value.okWide Try.prog W .any base t v := hval0
  have hW' := hW
  obtain ⟨p, q, hA0, hV, rfl, hfz, hnd⟩ := hW
  have hA : DataW.TrodAll enc Try.prog W 0 (fun _ => true) true Try.f8.params.toList args.toList ds p := hA0
  rw [Try.params8] at hA hval
  obtain ⟨v0, vs0, d0, ds0, p0, q0, hargs, rfl, rfl, h0, r0⟩ := trodAll_cons hA
  obtain ⟨v1, vs1, d1, ds1, p1, q1, rfl, rfl, rfl, h1, r1⟩ := trodAll_cons r0
  obtain ⟨rfl, rfl, rfl⟩ := trodAll_nil r1
  obtain rfl : args = #[v0, v1] := by cases args; simp_all
  obtain ⟨rfl, rfl⟩ := trodVars_none hV
  clear hA0 hval0
  simp only [List.append_nil] at hW'
  have hlt : ∀ x ∈ p0 ++ p1, x.block < W.heap.size := fun x hx => by simpa using hW'.lt x (by simpa using hx)
  obtain ⟨a0, t0, w0, s0⟩ := open_txts (hval 0 23 v0 rfl rfl) h0
  obtain ⟨a1, t1, w1, s1⟩ := open_txts (hval 1 23 v1 rfl rfl) h1
  refine (walk a0 v0 a1 v1 W t0 w0 s0 t1 w1 s1).mono fun e W' ⟨he, bel⟩ => ?_
  subst he
  refine ⟨_, rfl, _, _, _, [], _, [], hW', trodAll_mk1 (shut_bool Try.underlying4 _), (trodAll_cons_mk (Below.trod laid (by kernel_rfl) (of_decide_eq_true (by kernel_rfl)) h0 bel (fun x hx => hlt x (by simp [hx]))) (trodAll_cons_mk (Below.trod laid (by kernel_rfl) (of_decide_eq_true (by kernel_rfl)) h1 bel (fun x hx => hlt x (by simp [hx]))) trodAll_mk0)), rfl, Below.frame bel _, fun h => by cases h⟩

theorem over : Rows.wireJoinsRow.holds Try.pinned (OpenSpec.ofChange Rows.wireJoinsSpec) :=
  OpenClaim.holds_of_wide 8 Try.f8 rfl rfl rfl rfl rfl rfl rfl ⟨rfl, rfl, rfl, rfl, rfl⟩ rfl rfl rfl rfl rfl (by kernel_rfl) Try.func8 (by kernel_rfl)
    (of_decide_eq_true (by kernel_rfl)) (by unfold Func.isWrapper; first | (rw [if_pos (by decide +kernel)]; kernel_rfl) | (rw [if_neg (by decide +kernel)]; exact ⟨rfl, rfl⟩))
    (fun os started H enc _ => lifted os started H enc)

theorem proved : Rows.WireJoinsSaid := over
#print axioms proved
end Go.Proofs.Ytneclkkbgonkcaa.wireJoins
