/-
  Proved: whatever notes and cut ChangeSplits is called with, it returns true and leaves what it was given as it was. No condition.
-/
import Derived.Test.YthlbpjopkaninaaNh
import Derived.Test.YthlbpjopkaninaaNi
namespace Go.Proofs.Ythlbpjopkaninaa.changeSplits
set_option maxRecDepth 100000
open Go.ChangeShapes Go.WideShapes Go.ChangeAt Go.RowKit
open Go.ChangeMaps (open_string shut_string)
set_option linter.unusedVariables false
set_option linter.unusedSimpArgs false

theorem wpList_append_nteG {ops : Array Oper} {rest : List Oper} {o : Oper} {a : Act} {Q : Exit → Act → World → Prop} (w : World) (hgd : Region.wanted o (yielded ops a.tmps) = true) (s x : Operand) (t : TypeId)
    (htt : Try.prog.underlying t = some (.slice 39)) (ho : o.op = .call { callee := .builtin .append, args := #[s, x], argTypes := #[t, t] })
    (base B : Nat) (v : Value) (l m : List Nte) {A : Option Addr} {n c : Nat} (hs : a.eval s = v) (hx : a.eval x = .slice A n c) (h : OwnW base w v l)
    (g : Ntes w B (.slice A n c) m) (hb : base ≤ w.heap.size) (hl : l.length + m.length ≤ 4000000)
    (k : ∀ v' w', OwnW base w' v' (l ++ m) → w.grownBy w' v.ownBlock → wpList Try.prog ops Q rest (a.put o.dst v') w') : wpList Try.prog ops Q (o :: rest) a w := by
  refine wpList_step fun K hK => ?_
  rw [if_pos hgd]
  obtain ⟨v', w', h1, h2, h3⟩ := run_append_nte w base B t o.type htt v l m h g hb hl
  unfold Oper.wp execOp
  simp only [ho, resolve, invoke, builtin, Sem.run_bind, Sem.run_pure, Result.andThen_ok, List.map_toArray, List.map_cons, List.map_nil, hs, hx, h1]
  exact hK _ _ (k v' w' h2 h3)
theorem add_add4 (a : Addr) (m n : Nat) : (a.add m).add n = a.add (m + n) := add_add' a m n
theorem Ntes.cutTake {w : World} {B : Nat} {A : Option Addr} {n c : Nat} {l : List Nte} (h : Ntes w B (.slice A n c) l) {i : Nat} (hi : i ≤ l.length) : Ntes w B (.slice A i c) (l.take i) := by
  obtain ⟨A, c', e, e0, ez, eo, f⟩ := h
  injection e with e1 e2 e3
  subst e1 e2 e3
  have hlen : (l.take i).length = i := by rw [List.length_take]; omega
  refine ⟨_, _, by rw [hlen], by omega, ez, fun x hx => eo x (List.mem_of_mem_take hx), fun k hk => ?_⟩
  obtain ⟨a', e1, e2, e3⟩ := f k (by omega)
  exact ⟨a', e1, e2, by rw [List.getElem_take]; exact e3⟩
theorem Ntes.cutDrop {w : World} {B : Nat} {a : Addr} {n c : Nat} {l : List Nte} (h : Ntes w B (.slice (some a) n c) l) {i : Nat} (hi : i ≤ l.length) : Ntes w B (.slice (some (a.add (i * 4))) (l.length - i) (c - i)) (l.drop i) := by
  obtain ⟨A, c', e, e0, ez, eo, f⟩ := h
  injection e with e1 e2 e3
  subst e1 e2 e3
  have hlen : (l.drop i).length = l.length - i := by rw [List.length_drop]
  refine ⟨_, _, by rw [hlen], by omega, (by simp), fun x hx => eo x (List.mem_of_mem_drop hx), fun k hk => ?_⟩
  rw [hlen] at hk
  obtain ⟨a', e1, e2, e3⟩ := f (i + k) (by omega)
  injection e1 with e1
  subst e1
  refine ⟨_, rfl, by rw [add_block]; exact e2, ?_⟩
  rw [add_add', List.getElem_drop, ← Nat.add_mul]; exact e3
set_option maxHeartbeats 8000000 in
set_option maxRecDepth 100000 in
theorem walk (l : List Nte) (v : Value) (at' : Int) (w : World) (t0 : Ntes w w.heap.size v l) (z0 : l.length ≤ maxLen) (w1 : (Lit.int .u8 at').wf = true) :
    Calls Try.prog 8 #[v, .int .u8 at'] w fun e w' => e = .returned (.bool true) ∧ Q w w' := by
  obtain ⟨x, rfl, hx⟩ : ∃ n : Nat, at' = n ∧ n < 256 := by
    have h2 : 0 ≤ at' ∧ at' ≤ 255 := by simpa [Lit.wf, IntKind.min, IntKind.max, IntKind.signed, IntKind.bits] using w1
    exact ⟨at'.toNat, by omega, by omega⟩
  have F1 := Lib.hid (fewNs_any l v w z0 t0)
  have okA : ∀ x ∈ fewNs l, okW x := fewNs_okW t0.okAll
  have lA := fewNs_len l
  obtain ⟨A, hA⟩ : ∃ A, A = fewNs l := ⟨_, rfl⟩
  rw [← hA] at F1 okA lA
  have hst : ∀ x ∈ A, x.st < 18446744073709551616 := fun x hx => (okA x hx).1
  clear hA t0 z0 w1
  have OA := Lib.hid okA
  have K1 := Lib.hid (fun (x : World) (u : Value) (h : Ntes x x.heap.size u A) => layN_any A u x h)
  obtain ⟨⟨T, e⟩, hT⟩ : ∃ x, layV A = x := ⟨_, rfl⟩
  rw [hT] at K1
  simp only at K1
  obtain ⟨M, hM⟩ : ∃ n, A.length = n := ⟨_, rfl⟩
  have HM := Lib.hid hM
  rw [hM] at lA
  by_cases he : e = 0
  · subst he
    by_cases h2 : M < 2
    · have h2' : (M : Int) < 2 := by omega
      clear hT hst okA hx h2 hM
      go_enter Try.func8, Try.ntmps8
      go_wp2_with fail
      refine (F1.out).mono ?_
      rintro e w1 ⟨v1, rfl, o1, q1⟩
      have ra := Lib.hid (OwnW.read o1 OA.out)
      have p1 := q1
      obtain ⟨AA, cA, eA⟩ := ra.out.form
      rw [HM.out] at eA
      subst eA
      go_wp2_with fail
      refine (K1.out _ _ ra.out).mono ?_
      rintro e w2 ⟨rfl, q2⟩
      clear ra
      have p2 := p1.trans q2
      go_wp2_with fail
      refine (awakeY_any _).mono ?_
      rintro e w3 ⟨rfl, q3⟩
      have p3 := p2.trans q3
      go_wp2_with fail
      go_ret
      exact ⟨rfl, p3⟩
    · have h2' : ¬ (M : Int) < 2 := by omega
      obtain ⟨r, hr⟩ : ∃ r, r = x % (M - 1) := ⟨_, rfl⟩
      have hr2 : r < M - 1 := by rw [hr]; exact Nat.mod_lt _ (by omega)
      have hM1 : (M : Int) - 1 = ((M - 1 : Nat) : Int) := by omega
      have hmod : Int.tmod (x : Int) ((M - 1 : Nat) : Int) = (r : Int) := by rw [hr]; exact (Int.ofNat_tmod x (M - 1))
      have hM0 : ¬ ((M - 1 : Nat) : Int) = 0 := by omega
      obtain ⟨k, hk⟩ : ∃ k, k = 1 + r := ⟨_, rfl⟩
      have hkk : (1 : Int) + (r : Int) = (k : Int) := by omega
      have hk1 : 1 ≤ k := by omega
      have hk2 : k < M := by omega
      have hki : (k : Int) ≤ (M : Int) := by omega
      obtain ⟨T1, T2, hT1, hT2, hsum⟩ := lay_split hT (k := k) (by omega) (by omega)
      have TK : ∀ (B : List Nte) (z : ByteArray), layV B = (z, 0) → (∀ x ∈ B, x.st < 18446744073709551616) → ∀ y : World, Calls Try.prog 14 #[.string z] y fun e w' => ∃ v', e = .returned (.tuple #[v', .int .i64 0]) ∧ OwnW y.heap.size w' v' B ∧ Q y w' := by
        intro B z h1 h2 y
        have h3 := tk_some (lay_take h1 h2)
        have h4 := layV_sz B
        rw [h1] at h4
        simp only at h4
        have h5 := takeN_any z y (by omega)
        unfold TakeN at h5
        rw [h3.1, h3.2] at h5
        exact h5
      have KT1 := Lib.hid (TK _ _ hT1 (fun x hx => hst x (List.mem_of_mem_take hx)))
      have KT2 := Lib.hid (TK _ _ hT2 (fun x hx => hst x (List.mem_of_mem_drop hx)))
      have K2 := Lib.hid (fun (x : World) (u : Value) (h : Ntes x x.heap.size u (A.take k)) => layN_any (A.take k) u x h)
      have K3 := Lib.hid (fun (x : World) (u : Value) (h : Ntes x x.heap.size u (A.drop k)) => layN_any (A.drop k) u x h)
      rw [hT1] at K2
      rw [hT2] at K3
      simp only at K2 K3
      have S2 := Lib.hid (fun (x : World) (u v : Value) (h : Ntes x x.heap.size u A) (k : Ntes x x.heap.size v A) => nsame_any A A u v x (by omega) (by omega) h k)
      have hd2 : decide (A = A) = true := by simp
      rw [hd2] at S2
      have z1 := layV_sz A
      have z2 := layV_sz (A.take k)
      have z3 := layV_sz (A.drop k)
      rw [hT] at z1
      rw [hT1] at z2
      rw [hT2] at z3
      simp only at z1 z2 z3
      have O1 : Hid (∀ x ∈ A.take k, okW x) := Lib.hid (fun x hx => okA x (List.mem_of_mem_take hx))
      have O2 : Hid (∀ x ∈ A.drop k, okW x) := Lib.hid (fun x hx => okA x (List.mem_of_mem_drop hx))
      have HAB : Hid (A.take k ++ A.drop k = A) := Lib.hid (List.take_append_drop ..)
      have HCT := Lib.hid (fun (y : World) (a : Addr) (c : Nat) (h : Ntes y y.heap.size (.slice (some a) M c) A) => Ntes.cutTake h (i := k) (by omega))
      have HCD : Hid (∀ (y : World) (a : Addr) (c : Nat) (h : Ntes y y.heap.size (.slice (some a) M c) A), Ntes y y.heap.size (.slice (some (a.add (k * 4))) (M - k) (c - k)) (A.drop k)) := Lib.hid (fun y a c h => by have := Ntes.cutDrop h (i := k) (by omega); rw [hM] at this; exact this)
      obtain ⟨B1, hB1⟩ : ∃ z, z = A.take k := ⟨_, rfl⟩
      obtain ⟨B2, hB2⟩ : ∃ z, z = A.drop k := ⟨_, rfl⟩
      have lB1 : B1.length ≤ 101 := by rw [hB1, List.length_take]; omega
      have lB2 : B2.length ≤ 101 := by rw [hB2, List.length_drop]; omega
      rw [← hB1] at KT1 K2 O1 HAB HCT
      rw [← hB2] at KT2 K3 O2 HAB HCD
      have hsI : (T1.size : Int) + (T2.size : Int) = (T.size : Int) + 2 := by omega
      have HNZ : Hid (0 < M) := Lib.hid (by omega)
      have HKM : Hid (k ≤ M) := Lib.hid (by omega)
      clear hT hT1 hT2 hst okA h2 hM hr hr2 hk hd2 hB1 hB2 TK hsum
      go_enter Try.func8, Try.ntmps8
      go_wp2_with fail
      refine (F1.out).mono ?_
      rintro e w1 ⟨v1, rfl, o1, q1⟩
      have ra := Lib.hid (OwnW.read o1 OA.out)
      have p1 := q1
      obtain ⟨AA, cA, eA, hcap, -, -, hel⟩ := id ra.out
      rw [HM.out] at eA hcap
      obtain ⟨a, rfl, -⟩ := hel 0 (by have := HM.out; have := HNZ.out; omega)
      subst eA
      have hkc : k ≤ cA := Nat.le_trans HKM.out hcap
      have hkci : (k : Int) ≤ (cA : Int) := by omega
      have hck : ¬ cA = k := by omega
      clear hel o1
      go_wp2_with fail
      refine (K1.out _ _ ra.out).mono ?_
      rintro e w2 ⟨rfl, q2⟩
      have ra := Lib.hid (ra.out.on q2)
      have p2 := p1.trans q2
      go_wp2_with fail
      refine (K2.out _ _ (HCT.out _ _ _ ra.out)).mono ?_
      rintro e w3 ⟨rfl, q3⟩
      have ra := Lib.hid (ra.out.on q3)
      have p3 := p2.trans q3
      go_wp2_with fail
      refine (K3.out _ _ (HCD.out _ _ _ ra.out)).mono ?_
      rintro e w4 ⟨rfl, q4⟩
      have ra := Lib.hid (ra.out.on q4)
      have p4 := p3.trans q4
      go_wp2_with fail
      refine (KT1.out _).mono ?_
      rintro e w5 ⟨v5, rfl, o5, q5⟩
      have ra := Lib.hid (ra.out.on q5)
      have rb := Lib.hid (OwnW.read o5 O1.out)
      have p5 := p4.trans q5
      obtain ⟨AB, cB, rfl⟩ := rb.out.form
      go_wp2_with fail
      refine (KT2.out _).mono ?_
      rintro e w6 ⟨v6, rfl, o6, q6⟩
      have ra := Lib.hid (ra.out.on q6)
      have rb := Lib.hid (rb.out.on q6)
      have rc := Lib.hid (OwnW.read o6 O2.out)
      have p6 := p5.trans q6
      obtain ⟨AC, cC, rfl⟩ := rc.out.form
      have own0 := noneN_made w6
      have qn := (Q.refl w6).alloc (.cells #[] 39)
      have r4 := rb.out.on qn
      have r5 := Lib.hid (rc.out.on qn)
      clear hM1 hmod hkk hM0
      go_wp2_with (at_builtin; first
        | (refine wpList_append_nteG _ rfl _ _ 22 Try.underlying22 rfl w6.heap.size _ (.slice (some ⟨w6.heap.size, 0, none⟩) 0 0) [] B1 rfl rfl own0 r4 ?hb ?hl ?_; (case hb => simp); (case hl => simp; omega); intro v7 w7 o7 g7; have q7 : Q w6 w7 := Below.grown qn g7 qn.size (fun k hk => (World.ownsRow.lt own0 k hk).1); have p7 := g7; clear own0 r4)
        | (have r6 : Ntes w7 w7.heap.size _ B2 := rc.out.on q7; refine wpList_append_nteG _ rfl _ _ 22 Try.underlying22 rfl w6.heap.size _ _ B1 B2 rfl rfl o7 r6 ?hb ?hl ?_; (case hb => exact q7.size); (case hl => omega); intro v8 w8 o8 g8; have q8 : Q w6 w8 := Below.grown q7 g8 q7.size (fun k hk => (World.ownsRow.lt o7 k hk).1); clear r6 o7))
      have rs := OwnW.read o8 (by rw [HAB.out]; exact OA.out)
      rw [HAB.out] at rs
      have r9 := ra.out.on q8
      clear r5 o8 g8 p7 q7 rb rc
      refine (S2.out _ _ _ rs r9).mono ?_
      rintro e w9 ⟨rfl, d9⟩
      have q9 := d9.q
      go_wp2_with fail
      refine (awakeY_any _).mono ?_
      rintro e wz ⟨rfl, qz⟩
      go_wp2_with fail
      go_ret
      exact ⟨rfl, ((p6.trans q8).trans q9).trans qz⟩
  · have he' : ¬ (e : Int) = 0 := by omega
    clear hT hst okA hx hM
    go_enter Try.func8, Try.ntmps8
    go_wp2_with fail
    refine (F1.out).mono ?_
    rintro e w1 ⟨v1, rfl, o1, q1⟩
    have ra := Lib.hid (OwnW.read o1 OA.out)
    have p1 := q1
    obtain ⟨AA, cA, eA⟩ := ra.out.form
    rw [HM.out] at eA
    subst eA
    go_wp2_with fail
    refine (K1.out _ _ ra.out).mono ?_
    rintro e w2 ⟨rfl, q2⟩
    clear ra
    have p2 := p1.trans q2
    go_wp2_with fail
    refine (awakeY_any _).mono ?_
    rintro e w3 ⟨rfl, q3⟩
    have p3 := p2.trans q3
    go_wp2_with fail
    go_ret
    exact ⟨rfl, p3⟩

set_option maxRecDepth 100000 in
theorem lifted (os : Os) (started : os.Started) (H : Type) (enc : TypeId × Value → H) :
    ReturnsInHanded {} Try.checked os 8 .any (Rows.changeSplitsSpec.pre6 enc Try.prog Try.f8 Rows.changeSplitsRow.domain false) (Rows.changeSplitsSpec.post enc Try.prog Try.f8 false true false false) := by
  refine returnsInHanded_of_change (C := Try.checked) own started (by kernel_rfl) Try.func8
    (ChangeSpec.witness6 (enc := enc) (C := Try.checked) false ⟨#[], #[.slice none 0 0, .int .u8 0], []⟩ 8 (by kernel_rfl) (by kernel_rfl) (by kernel_rfl) (by kernel_rfl)) ?_
  intro W base args ds gs before hval0 hW hcnd _
  have hval : ∀ (j : Nat) t v, Try.f8.params[j]? = some t → args[j]? = some v → Value.okWide Try.prog W .any base t v := hval0
  have hW' := hW
  obtain ⟨p, q, hA0, hV, rfl, hfz, hnd⟩ := hW
  have hA : DataW.TrodAll enc Try.prog W 0 (fun _ => true) true Try.f8.params.toList args.toList ds p := hA0
  rw [Try.params8] at hA hval
  obtain ⟨v0, vs0, d0, ds0, p0, q0, hargs, rfl, rfl, h0, r0⟩ := trodAll_cons hA
  obtain ⟨v1, vs1, d1, ds1, p1, q1, rfl, rfl, rfl, h1, r1⟩ := trodAll_cons r0
  obtain ⟨rfl, rfl, rfl⟩ := trodAll_nil r1
  obtain rfl : args = #[v0, v1] := by cases args; simp_all
  obtain ⟨rfl, rfl⟩ := trodVars_none hV
  clear hA0 hval0
  simp only [List.append_nil] at hW'
  have hlt : ∀ x ∈ p0 ++ p1, x.block < W.heap.size := fun x hx => by simpa using hW'.lt x (by simpa using hx)
  obtain ⟨l0, t0, z0⟩ := open_ntes (hval 0 22 v0 rfl rfl) h0
  obtain ⟨a1, rfl, -, -, w1⟩ := open_int Try.underlying5 (hval 1 5 v1 rfl rfl) h1
  refine (walk l0 v0 a1 W t0 z0 w1).mono fun e W' ⟨he, bel⟩ => ?_
  subst he
  refine ⟨_, rfl, _, _, _, [], _, [], hW', trodAll_mk1 (shut_bool Try.underlying4 _), (trodAll_cons_mk (Below.trod laid (by kernel_rfl) (of_decide_eq_true (by kernel_rfl)) h0 bel (fun x hx => hlt x (by simp [hx]))) (trodAll_cons_mk (Below.trod laid (by kernel_rfl) (of_decide_eq_true (by kernel_rfl)) h1 bel (fun x hx => hlt x (by simp [hx]))) trodAll_mk0)), rfl, Below.frame bel _, fun h => by cases h⟩

theorem over : Rows.changeSplitsRow.holds Try.pinned (OpenSpec.ofChange Rows.changeSplitsSpec) :=
  OpenClaim.holds_of_wide 8 Try.f8 rfl rfl rfl rfl rfl rfl rfl ⟨rfl, rfl, rfl, rfl, rfl⟩ rfl rfl rfl rfl rfl (by kernel_rfl) Try.func8 (by kernel_rfl)
    (of_decide_eq_true (by kernel_rfl)) (by unfold Func.isWrapper; first | (rw [if_pos (by decide +kernel)]; kernel_rfl) | (rw [if_neg (by decide +kernel)]; exact ⟨rfl, rfl⟩))
    (fun os started H enc _ => lifted os started H enc)

theorem proved : Rows.ChangeSplitsSaid := over
#print axioms proved
end Go.Proofs.Ythlbpjopkaninaa.changeSplits
