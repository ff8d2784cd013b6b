/-
  Proved: whatever notes and changes ChangeGoes is called with, it returns true and leaves what it was given as it was. No condition.
-/
import Derived.Test.YthlbpjopkaninaaNh
namespace Go.Proofs.Ythlbpjopkaninaa.changeGoes
set_option maxRecDepth 100000
open Go.ChangeShapes Go.WideShapes Go.ChangeAt Go.RowKit
open Go.ChangeMaps (open_string shut_string)
set_option linter.unusedVariables false
set_option linter.unusedSimpArgs false

set_option maxHeartbeats 8000000 in
set_option maxRecDepth 100000 in
theorem walk (l : List Nte) (v : Value) (c : List Chg) (vc : Value) (w : World) (t0 : Ntes w w.heap.size v l) (z0 : l.length ≤ maxLen) (t1 : Chgs w w.heap.size vc c) (z1 : c.length ≤ maxLen) :
    Calls Try.prog 7 #[v, vc] w fun e w' => e = .returned (.bool true) ∧ Q w w' := by
  have F1 := Lib.hid (fewNs_any l v w z0 t0)
  have F2 := Lib.hid (fun (x : World) (q : Q w x) => fewCs_any c vc x z1 (t1.on q))
  have okA : ∀ x ∈ fewNs l, okW x := fewNs_okW t0.okAll
  have lA := fewNs_len l
  have okC := fewCs_okH (c := c)
  have lC := fewCs_len c
  obtain ⟨A, hA⟩ : ∃ A, A = fewNs l := ⟨_, rfl⟩
  rw [← hA] at F1 okA lA
  obtain ⟨D, hD⟩ : ∃ D, D = fewCs c := ⟨_, rfl⟩
  rw [← hD] at F2 okC lC
  have hst : ∀ x ∈ A, x.st < 18446744073709551616 := fun x hx => (okA x hx).1
  have hlast : lastN A < 18446744073709551616 := by
    rcases lastN_in A with h | ⟨x, hx, e⟩
    · rw [h]; show (0 : Nat) < _; omega
    · rw [← e]; exact hst x hx
  clear hA hD t0 z0 t1 z1 hst
  have OA := Lib.hid okA
  have OC := Lib.hid okC
  have K1 := Lib.hid (fun (x : World) (u : Value) (h : Ntes x x.heap.size u A) => lastN_any A u x (by omega) h)
  have HST := Lib.hid (itN_stamped (l := A) (s := lastN A + 1) (fun x hx => by have := lastN_le x hx; omega) D)
  obtain ⟨m, hm⟩ : ∃ m, m = lastN A := ⟨_, rfl⟩
  rw [← hm] at K1 HST hlast
  clear hm
  by_cases hmx : m = 18446744073709551615
  · have e1 : ((m : Int) == 18446744073709551615) = true := by simp; omega
    clear hmx HST
    go_enter Try.func7, Try.ntmps7
    go_wp2_with fail
    refine (F1.out).mono ?_
    rintro e w1 ⟨v1, rfl, o1, q1⟩
    have ra := Lib.hid (OwnW.read o1 OA.out)
    have p1 := q1
    go_wp2_with fail
    refine (F2.out _ p1).mono ?_
    rintro e w2 ⟨v2, rfl, o2, q2⟩
    have ra := Lib.hid (ra.out.on q2)
    have p2 := p1.trans q2
    go_wp2_with fail
    refine (K1.out _ _ ra.out).mono ?_
    rintro e w3 ⟨rfl, q3⟩
    clear ra
    have p3 := p2.trans q3
    go_wp2_with fail
    refine (awakeY_any _).mono ?_
    rintro e w4 ⟨rfl, q4⟩
    have p4 := p3.trans q4
    go_wp2_with fail
    go_ret
    exact ⟨rfl, p4⟩
  · have e1 : ((m : Int) == 18446744073709551615) = false := by simp; omega
    have hw1 : IntKind.u64.wrap ((m : Int) + 1) = ((m + 1 : Nat) : Int) := by rw [IntKind.wrap_u64]; omega
    have hm1 : Hid ((m : Int) + 1 = ((m + 1 : Nat) : Int)) := Lib.hid (by omega)
    have K2 := Lib.hid (fun (x : World) (u : Value) (h : Chgs x x.heap.size u D) => stamped_any D (m + 1) u x (by omega) h)
    have okS : ∀ x ∈ A ++ stampN D (m + 1), okW x := fun x hx => by
      rcases List.mem_append.1 hx with h | h
      · exact okA x h
      · obtain ⟨y, hy, rfl⟩ := List.mem_map.1 h
        exact ⟨by show m + 1 < _; omega, (okC y hy).1, (okC y hy).2.1, trivial⟩
    have lS : (stampN D (m + 1)).length ≤ 60 := by unfold stampN; rw [List.length_map]; exact lC
    have lN : (A ++ stampN D (m + 1)).length ≤ 161 := by rw [List.length_append]; omega
    have lI := itN_le A
    have lJ := itN_le (A ++ stampN D (m + 1))
    have K3 := Lib.hid (fun (x : World) (u : Value) (h : Ntes x x.heap.size u (A ++ stampN D (m + 1))) => itemsN_any (A ++ stampN D (m + 1)) u x (by omega) h)
    have K4 := Lib.hid (fun (x : World) (u : Value) (h : Ntes x x.heap.size u A) => itemsN_any A u x (by omega) h)
    have K5 := Lib.hid (fun (x : World) (u v : Value) (h : Itms x x.heap.size u (itN A)) (k : Chgs x x.heap.size v D) => rwith_any (itN A) D u v x (by omega) (by omega) (itN_okI okA) h k)
    have OI := Lib.hid (itN_okI okA)
    have OJ := Lib.hid (itN_okI okS)
    have OS : Hid (∀ x ∈ stampN D (m + 1), okW x) := Lib.hid fun x hx => okS x (List.mem_append.2 (.inr hx))
    have ON := Lib.hid okS
    rw [HST.out] at K3 OJ lJ
    have S2 := Lib.hid (fun (x : World) (u v : Value) (h : Itms x x.heap.size u (withI (itN A) D)) (k : Itms x x.heap.size v (withI (itN A) D)) => isame_any (withI (itN A) D) (withI (itN A) D) u v x (by omega) (by omega) h k)
    have hd2 : decide (withI (itN A) D = withI (itN A) D) = true := by simp
    rw [hd2] at S2
    obtain ⟨T, hT⟩ : ∃ T, T = itN A := ⟨_, rfl⟩
    obtain ⟨U, hU⟩ : ∃ U, U = withI T D := ⟨_, rfl⟩
    obtain ⟨E, hE⟩ : ∃ E, E = stampN D (m + 1) := ⟨_, rfl⟩
    rw [← hT] at K3 K4 K5 OI OJ S2
    rw [← hU] at K3 K5 OJ S2
    rw [← hE] at K2 K3 OS ON lS lN
    clear hT hU hE okA okC okS hd2 hmx HST lI lJ
    go_enter Try.func7, Try.ntmps7
    go_wp2_with fail
    refine (F1.out).mono ?_
    rintro e w1 ⟨v1, rfl, o1, q1⟩
    have ra := Lib.hid (OwnW.read o1 OA.out)
    have p1 := q1
    go_wp2_with fail
    refine (F2.out _ p1).mono ?_
    rintro e w2 ⟨v2, rfl, o2, q2⟩
    have ra := Lib.hid (ra.out.on q2)
    have rd := Lib.hid (OwnH.read o2 OC.out)
    have p2 := p1.trans q2
    go_wp2_with fail
    refine (K1.out _ _ ra.out).mono ?_
    rintro e w3 ⟨rfl, q3⟩
    have ra := Lib.hid (ra.out.on q3)
    have rd := Lib.hid (rd.out.on q3)
    have p3 := p2.trans q3
    obtain ⟨AA, cA, rfl⟩ := ra.out.form
    have own0 := noneN_made w3
    have qn := (Q.refl w3).alloc (.cells #[] 39)
    have r4 := ra.out.on qn
    go_wp2_with (at_builtin; refine wpList_append_nte _ rfl _ _ 22 Try.underlying22 rfl w3.heap.size _ _ [] A rfl rfl own0 r4 ?hb ?hl ?_; (case hb => simp); (case hl => simp; omega); intro v4 w4 o4 g4; have q4 : Q w3 w4 := Below.grown qn g4 qn.size (fun k hk => (World.ownsRow.lt own0 k hk).1); clear own0 r4 g4)
    rw [hm1.out]
    have rd4 := rd.out.on q4
    have o4 : OwnW w3.heap.size w4 v4 A := o4
    refine (K2.out _ _ rd4).mono ?_
    rintro e w5 ⟨v5, rfl, o5, q5⟩
    have rs5 := OwnW.read o5 OS.out
    obtain ⟨A5, c5, rfl⟩ := rs5.form
    have o45 := o4.on q5
    have q35 := q4.trans q5
    go_wp2_with (at_builtin; refine wpList_append_nte _ rfl _ _ 22 Try.underlying22 rfl w3.heap.size _ _ A E rfl rfl o45 rs5 ?hb ?hl ?_; (case hb => exact q35.size); (case hl => omega); intro v6 w6 o6 g6; have q6 : Q w3 w6 := Below.grown q35 g6 q35.size (fun k hk => (World.ownsRow.lt o45 k hk).1); clear g6)
    have rn := Lib.hid (OwnW.read o6 ON.out)
    have ra := Lib.hid (ra.out.on q6)
    have rd := Lib.hid (rd.out.on q6)
    have p6 := p3.trans q6
    clear rs5 o45 q35 o4 o5 o6 q4 q5 q6 rd4 qn
    refine (K3.out _ _ rn.out).mono ?_
    rintro e w7 ⟨v7, rfl, o7, q7⟩
    have ra := Lib.hid (ra.out.on q7)
    have rd := Lib.hid (rd.out.on q7)
    clear rn
    have ru := Lib.hid (OwnI.read o7 OJ.out)
    have p7 := p6.trans q7
    go_wp2_with fail
    refine (K4.out _ _ ra.out).mono ?_
    rintro e w8 ⟨v8, rfl, o8, q8⟩
    have rd := Lib.hid (rd.out.on q8)
    have ru := Lib.hid (ru.out.on q8)
    clear ra
    have rt := Lib.hid (OwnI.read o8 OI.out)
    have p8 := p7.trans q8
    go_wp2_with fail
    refine (K5.out _ _ _ rt.out rd.out).mono ?_
    rintro e w9 ⟨v9, rfl, o9, q9⟩
    have ru := Lib.hid (ru.out.on q9)
    clear rt rd
    have ru2 := Lib.hid (OwnI.read o9 OJ.out)
    have p9 := p8.trans q9
    go_wp2_with fail
    refine (S2.out _ _ _ ru.out ru2.out).mono ?_
    rintro e w10 ⟨rfl, d10⟩
    have q10 := d10.q
    clear ru ru2
    have p10 := p9.trans q10
    go_wp2_with fail
    refine (awakeY_any _).mono ?_
    rintro e w11 ⟨rfl, q11⟩
    have p11 := p10.trans q11
    go_wp2_with fail
    go_ret
    exact ⟨rfl, p11⟩

set_option maxRecDepth 100000 in
theorem lifted (os : Os) (started : os.Started) (H : Type) (enc : TypeId × Value → H) :
    ReturnsInHanded {} Try.checked os 7 .any (Rows.changeGoesSpec.pre6 enc Try.prog Try.f7 Rows.changeGoesRow.domain false) (Rows.changeGoesSpec.post enc Try.prog Try.f7 false true false false) := by
  refine returnsInHanded_of_change (C := Try.checked) own started (by kernel_rfl) Try.func7
    (ChangeSpec.witness6 (enc := enc) (C := Try.checked) false ⟨#[], #[.slice none 0 0, .slice none 0 0], []⟩ 8 (by kernel_rfl) (by kernel_rfl) (by kernel_rfl) (by kernel_rfl)) ?_
  intro W base args ds gs before hval0 hW hcnd _
  have hval : ∀ (j : Nat) t v, Try.f7.params[j]? = some t → args[j]? = some v → Value.okWide Try.prog W .any base t v := hval0
  have hW' := hW
  obtain ⟨p, q, hA0, hV, rfl, hfz, hnd⟩ := hW
  have hA : DataW.TrodAll enc Try.prog W 0 (fun _ => true) true Try.f7.params.toList args.toList ds p := hA0
  rw [Try.params7] at hA hval
  obtain ⟨v0, vs0, d0, ds0, p0, q0, hargs, rfl, rfl, h0, r0⟩ := trodAll_cons hA
  obtain ⟨v1, vs1, d1, ds1, p1, q1, rfl, rfl, rfl, h1, r1⟩ := trodAll_cons r0
  obtain ⟨rfl, rfl, rfl⟩ := trodAll_nil r1
  obtain rfl : args = #[v0, v1] := by cases args; simp_all
  obtain ⟨rfl, rfl⟩ := trodVars_none hV
  clear hA0 hval0
  simp only [List.append_nil] at hW'
  have hlt : ∀ x ∈ p0 ++ p1, x.block < W.heap.size := fun x hx => by simpa using hW'.lt x (by simpa using hx)
  obtain ⟨l0, t0, z0⟩ := open_ntes (hval 0 22 v0 rfl rfl) h0
  obtain ⟨l1, t1, z1⟩ := open_chgs (hval 1 42 v1 rfl rfl) h1
  refine (walk l0 v0 l1 v1 W t0 z0 t1 z1).mono fun e W' ⟨he, bel⟩ => ?_
  subst he
  refine ⟨_, rfl, _, _, _, [], _, [], hW', trodAll_mk1 (shut_bool Try.underlying4 _), (trodAll_cons_mk (Below.trod laid (by kernel_rfl) (of_decide_eq_true (by kernel_rfl)) h0 bel (fun x hx => hlt x (by simp [hx]))) (trodAll_cons_mk (Below.trod laid (by kernel_rfl) (of_decide_eq_true (by kernel_rfl)) h1 bel (fun x hx => hlt x (by simp [hx]))) trodAll_mk0)), rfl, Below.frame bel _, fun h => by cases h⟩

theorem over : Rows.changeGoesRow.holds Try.pinned (OpenSpec.ofChange Rows.changeGoesSpec) :=
  OpenClaim.holds_of_wide 7 Try.f7 rfl rfl rfl rfl rfl rfl rfl ⟨rfl, rfl, rfl, rfl, rfl⟩ rfl rfl rfl rfl rfl (by kernel_rfl) Try.func7 (by kernel_rfl)
    (of_decide_eq_true (by kernel_rfl)) (by unfold Func.isWrapper; first | (rw [if_pos (by decide +kernel)]; kernel_rfl) | (rw [if_neg (by decide +kernel)]; exact ⟨rfl, rfl⟩))
    (fun os started H enc _ => lifted os started H enc)

theorem proved : Rows.ChangeGoesSaid := over
#print axioms proved
end Go.Proofs.Ythlbpjopkaninaa.changeGoes
