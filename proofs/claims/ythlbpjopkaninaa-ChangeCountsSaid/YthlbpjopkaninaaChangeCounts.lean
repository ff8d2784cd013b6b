/-
  Proved: whatever notes and changes ChangeCounts is called with, it returns true and leaves what it was given as it was. No condition.
-/
import Derived.Test.YthlbpjopkaninaaNh
namespace Go.Proofs.Ythlbpjopkaninaa.changeCounts
set_option maxRecDepth 100000
open Go.ChangeShapes Go.WideShapes Go.ChangeAt Go.RowKit
open Go.ChangeMaps (open_string shut_string)
set_option linter.unusedVariables false
set_option linter.unusedSimpArgs false

set_option maxHeartbeats 8000000 in
set_option maxRecDepth 100000 in
theorem walk (l : List Nte) (v : Value) (b : List Nte) (vb : Value) (c : List Chg) (vc : Value) (w : World) (t0 : Ntes w w.heap.size v l) (z0 : l.length ≤ maxLen) (t1 : Ntes w w.heap.size vb b) (z1 : b.length ≤ maxLen) (t2 : Chgs w w.heap.size vc c) (z2 : c.length ≤ maxLen) :
    Calls Try.prog 4 #[v, vb, vc] w fun e w' => e = .returned (.bool true) ∧ Q w w' := by
  have F1 := Lib.hid (fewNs_any l v w z0 t0)
  have F2 := Lib.hid (fun (x : World) (q : Q w x) => fewNs_any b vb x z1 (t1.on q))
  have F3 := Lib.hid (fun (x : World) (q : Q w x) => fewCs_any c vc x z2 (t2.on q))
  have okA : ∀ x ∈ fewNs l, okW x := fewNs_okW t0.okAll
  have lA := fewNs_len l
  have okB : ∀ x ∈ fewNs b, okW x := fewNs_okW t1.okAll
  have lB := fewNs_len b
  have okC := fewCs_okH (c := c)
  have lC := fewCs_len c
  obtain ⟨A, hA⟩ : ∃ A, A = fewNs l := ⟨_, rfl⟩
  rw [← hA] at F1 okA lA
  obtain ⟨B, hB⟩ : ∃ B, B = fewNs b := ⟨_, rfl⟩
  rw [← hB] at F2 okB lB
  obtain ⟨D, hD⟩ : ∃ D, D = fewCs c := ⟨_, rfl⟩
  rw [← hD] at F3 okC lC
  clear hA hB hD t0 z0 t1 z1 t2 z2
  have OA := Lib.hid okA
  have OB := Lib.hid okB
  have OD := Lib.hid okC
  have OC := Lib.hid (cntN_okW okA)
  have OL := Lib.hid (liveN_okW (all := A) okB)
  have OI := Lib.hid (itN_okI okA)
  have lX := Nat.le_trans (cntN_len A) lA
  have lL := Nat.le_trans (liveN_le A B) lB
  have lI := Nat.le_trans (itN_le A) lA
  have K1 := Lib.hid (fun (x : World) (u : Value) (h : Ntes x x.heap.size u A) => countN_any A u x (by omega) h)
  have K2 := Lib.hid (fun (x : World) (u : Value) (h : Ntes x x.heap.size u A) => rcount_any A u x (by omega) h)
  have K3 := Lib.hid (fun (x : World) (u : Value) (h : Ntes x x.heap.size u A) => itemsN_any A u x (by omega) h)
  have K4 := Lib.hid (fun (x : World) (u : Value) (h : Ntes x x.heap.size u A) => ritems_any A u x (by omega) h)
  have K5 := Lib.hid (fun (x : World) (u v : Value) (h : Ntes x x.heap.size u A) (k : Ntes x x.heap.size v B) => liveN_any A B u v x (by omega) (by omega) h k)
  have K6 := Lib.hid (fun (x : World) (u v : Value) (h : Ntes x x.heap.size u A) (k : Ntes x x.heap.size v B) => rlive_any A B u v x (by omega) (by omega) h k)
  have K7 := Lib.hid (fun (x : World) (u : Value) (h : Ntes x x.heap.size u A) => lastN_any A u x (by omega) h)
  have K8 := Lib.hid (fun (x : World) (u : Value) (h : Ntes x x.heap.size u A) => rlastN_any A u x (by omega) h)
  obtain ⟨X, hX⟩ : ∃ X, X = cntN A := ⟨_, rfl⟩
  obtain ⟨L, hL⟩ : ∃ L, L = liveN A B := ⟨_, rfl⟩
  obtain ⟨T, hT⟩ : ∃ T, T = itN A := ⟨_, rfl⟩
  obtain ⟨m, hm⟩ : ∃ m, m = lastN A := ⟨_, rfl⟩
  rw [← hX] at K1 K2 OC lX
  rw [← hL] at K5 K6 OL lL
  rw [← hT] at K3 K4 OI lI
  rw [← hm] at K7 K8
  have S1 := Lib.hid (fun (x : World) (u v : Value) (h : Ntes x x.heap.size u X) (k : Ntes x x.heap.size v X) => nsame_any X X u v x (by omega) (by omega) h k)
  have S2 := Lib.hid (fun (x : World) (u v : Value) (h : Itms x x.heap.size u T) (k : Itms x x.heap.size v T) => isame_any T T u v x (by omega) (by omega) h k)
  have S3 := Lib.hid (fun (x : World) (u v : Value) (h : Ntes x x.heap.size u L) (k : Ntes x x.heap.size v L) => nsame_any L L u v x (by omega) (by omega) h k)
  have hd1 : decide (X = X) = true := by simp
  have hd2 : decide (T = T) = true := by simp
  have hd3 : decide (L = L) = true := by simp
  rw [hd1] at S1
  rw [hd2] at S2
  rw [hd3] at S3
  obtain ⟨s, hws⟩ : ∃ s : Nat, IntKind.u64.wrap ((m : Int) + 1) = (s : Int) := ⟨(IntKind.u64.wrap ((m : Int) + 1)).toNat, by rw [IntKind.wrap_u64]; omega⟩
  have hsb : s < 18446744073709551616 := by rw [IntKind.wrap_u64] at hws; omega
  have K9 := Lib.hid (fun (x : World) (u : Value) (h : Chgs x x.heap.size u D) => stamped_any D s u x (by omega) h)
  have OE : Hid (∀ x ∈ stampN D s, okW x) := Lib.hid fun x hx => by
    obtain ⟨y, hy, rfl⟩ := List.mem_map.1 hx
    exact ⟨hsb, (okC y hy).1, (okC y hy).2.1, trivial⟩
  have lE : (stampN D s).length = D.length := by unfold stampN; rw [List.length_map]
  have HEN : Hid (∀ i (h : i < D.length) (k : i < (stampN D s).length), (stampN D s)[i] = ⟨s, D[i].n, D[i].val, D[i].gone⟩) := Lib.hid fun i h k => by simp [stampN]
  obtain ⟨E, hE⟩ : ∃ E, E = stampN D s := ⟨_, rfl⟩
  have HEN2 : Hid (∀ i (h : i < D.length) (k : i < E.length), E[i] = ⟨s, D[i].n, D[i].val, D[i].gone⟩) := Lib.hid (by rw [hE]; exact HEN.out)
  rw [← hE] at K9 OE lE
  have hne : ((D.length : Int) != (D.length : Int)) = false := by simp
  have LE := Lib.hid lE
  clear hX hL hT hm hE HEN okA okB okC hd1 hd2 hd3 lA lB lX lL lI lE hsb
  go_enter Try.func4, Try.ntmps4
  go_wp2_with fail
  refine (F1.out).mono ?_
  rintro e w1 ⟨v1, rfl, o1, q1⟩
  have ra := Lib.hid (OwnW.read o1 OA.out)
  have p1 := q1
  go_wp2_with fail
  refine (F2.out _ p1).mono ?_
  rintro e w2 ⟨v2, rfl, o2, q2⟩
  have ra := Lib.hid (ra.out.on q2)
  have rb := Lib.hid (OwnW.read o2 OB.out)
  have p2 := p1.trans q2
  go_wp2_with fail
  refine (F3.out _ p2).mono ?_
  rintro e w3 ⟨v3, rfl, o3, q3⟩
  have ra := Lib.hid (ra.out.on q3)
  have rb := Lib.hid (rb.out.on q3)
  have rd := Lib.hid (OwnH.read o3 OD.out)
  have p3 := p2.trans q3
  obtain ⟨A3, c3, rfl⟩ := rd.out.form
  go_wp2_with fail
  refine (K1.out _ _ ra.out).mono ?_
  rintro e w4 ⟨v4, rfl, o4, q4⟩
  have ra := Lib.hid (ra.out.on q4)
  have rb := Lib.hid (rb.out.on q4)
  have rd := Lib.hid (rd.out.on q4)
  have rx := Lib.hid (OwnW.read o4 OC.out)
  have p4 := p3.trans q4
  go_wp2_with fail
  refine (K2.out _ _ ra.out).mono ?_
  rintro e w5 ⟨v5, rfl, o5, q5⟩
  have ra := Lib.hid (ra.out.on q5)
  have rb := Lib.hid (rb.out.on q5)
  have rd := Lib.hid (rd.out.on q5)
  have rx := Lib.hid (rx.out.on q5)
  have ry := Lib.hid (OwnW.read o5 OC.out)
  have p5 := p4.trans q5
  go_wp2_with fail
  refine (S1.out _ _ _ rx.out ry.out).mono ?_
  rintro e w6 ⟨rfl, d6⟩
  have q6 := d6.q
  have ra := Lib.hid (ra.out.on q6)
  have rb := Lib.hid (rb.out.on q6)
  have rd := Lib.hid (rd.out.on q6)
  clear rx ry
  have p6 := p5.trans q6
  go_wp2_with fail
  refine (K3.out _ _ ra.out).mono ?_
  rintro e w7 ⟨v7, rfl, o7, q7⟩
  have ra := Lib.hid (ra.out.on q7)
  have rb := Lib.hid (rb.out.on q7)
  have rd := Lib.hid (rd.out.on q7)
  have rx := Lib.hid (OwnI.read o7 OI.out)
  have p7 := p6.trans q7
  go_wp2_with fail
  refine (K4.out _ _ ra.out).mono ?_
  rintro e w8 ⟨v8, rfl, o8, q8⟩
  have ra := Lib.hid (ra.out.on q8)
  have rb := Lib.hid (rb.out.on q8)
  have rd := Lib.hid (rd.out.on q8)
  have rx := Lib.hid (rx.out.on q8)
  have ry := Lib.hid (OwnI.read o8 OI.out)
  have p8 := p7.trans q8
  go_wp2_with fail
  refine (S2.out _ _ _ rx.out ry.out).mono ?_
  rintro e w9 ⟨rfl, d9⟩
  have q9 := d9.q
  have ra := Lib.hid (ra.out.on q9)
  have rb := Lib.hid (rb.out.on q9)
  have rd := Lib.hid (rd.out.on q9)
  clear rx ry
  have p9 := p8.trans q9
  go_wp2_with fail
  refine (K5.out _ _ _ ra.out rb.out).mono ?_
  rintro e w10 ⟨v10, rfl, o10, q10⟩
  have ra := Lib.hid (ra.out.on q10)
  have rb := Lib.hid (rb.out.on q10)
  have rd := Lib.hid (rd.out.on q10)
  have rx := Lib.hid (OwnW.read o10 OL.out)
  have p10 := p9.trans q10
  go_wp2_with fail
  refine (K6.out _ _ _ ra.out rb.out).mono ?_
  rintro e w11 ⟨v11, rfl, o11, q11⟩
  have ra := Lib.hid (ra.out.on q11)
  have rd := Lib.hid (rd.out.on q11)
  have rx := Lib.hid (rx.out.on q11)
  clear rb
  have ry := Lib.hid (OwnW.read o11 OL.out)
  have p11 := p10.trans q11
  go_wp2_with fail
  refine (S3.out _ _ _ rx.out ry.out).mono ?_
  rintro e w12 ⟨rfl, d12⟩
  have q12 := d12.q
  have ra := Lib.hid (ra.out.on q12)
  have rd := Lib.hid (rd.out.on q12)
  clear rx ry
  have p12 := p11.trans q12
  go_wp2_with fail
  refine (K7.out _ _ ra.out).mono ?_
  rintro e w13 ⟨rfl, q13⟩
  have ra := Lib.hid (ra.out.on q13)
  have rd := Lib.hid (rd.out.on q13)
  have p13 := p12.trans q13
  go_wp2_with fail
  refine (K8.out _ _ ra.out).mono ?_
  rintro e w14 ⟨rfl, d14⟩
  have q14 := d14.q
  have ra := Lib.hid (ra.out.on q14)
  have rd := Lib.hid (rd.out.on q14)
  have p14 := p13.trans q14
  go_wp2_with fail
  refine (K7.out _ _ ra.out).mono ?_
  rintro e w15 ⟨rfl, q15⟩
  have ra := Lib.hid (ra.out.on q15)
  have rd := Lib.hid (rd.out.on q15)
  have p15 := p14.trans q15
  go_wp2_with fail
  refine (K9.out _ _ rd.out).mono ?_
  rintro e w16 ⟨v16, rfl, o16, q16⟩
  have ra := Lib.hid (ra.out.on q16)
  have rd := Lib.hid (rd.out.on q16)
  have re := Lib.hid (OwnW.read o16 OE.out)
  have p16 := p15.trans q16
  obtain ⟨A5, c5, e5, -, -, -, h5⟩ := re.out
  rw [LE.out] at e5
  subst e5
  obtain ⟨A6, c6, e6, -, -, -, h6⟩ := rd.out
  injection e6 with e61 e62 e63
  subst e61
  have H5 := Lib.hid h5
  have H6 := Lib.hid h6
  clear h5 h6 e62 e63 K1 K2 K3 K4 K5 K6 K9 S1 S2 S3
  have HP := Lib.hid p16
  go_wp2_with fail
  go_loopw [8] (fun I wr => ∃ i : Nat, i ≤ D.length ∧ I = .int .i64 i ∧ Q w16 wr) (fun I _ => D.length - (intOf I).toNat)
  case atStart => exact ⟨0, Nat.zero_le _, rfl, Q.refl _⟩
  case round =>
    obtain ⟨i, hil, rfl, q⟩ := hrel
    by_cases hlt : i < D.length
    · have hlt2 : i < E.length := by rw [LE.out]; exact hlt
      obtain ⟨a5, ha5e, ha5, hat5⟩ := H5.out i hlt2
      obtain ⟨a6, ha6e, ha6, hat6⟩ := H6.out i hlt
      subst ha5e ha6e
      have HE := Lib.hid (HEN2.out i hlt hlt2)
      obtain ⟨s0, s1, s2, s3⟩ := hat5.keep (by rw [add_block]; exact ha5) fun _ hp => q.cell hp
      obtain ⟨u0, u1, u2⟩ := hat6.keep (by rw [add_block]; exact ha6) fun _ hp => q.cell hp
      rw [HE.out] at s0 s1 s2 s3
      obtain ⟨y, hy⟩ : ∃ y, y = D[i] := ⟨_, rfl⟩
      rw [← hy] at s1 s2 s3 u0 u1 u2
      simp only at s0 s1 s2 s3
      have hilt : (i : Int) < (D.length : Int) := by omega
      clear hy hat5 hat6 HE hlt2
      have ra2 := ra.out.on q.drew
      go_wp2_with fail
      refine wp_region_held_drew (S := (fun W => W.cell? (a5.add (i * 4)) = some (.int .u64 (s : Nat)) ∧ W.cell? ⟨(a5.add (i * 4)).block, (a5.add (i * 4)).off + 1, none⟩ = some (.string y.n) ∧ W.cell? ⟨(a5.add (i * 4)).block, (a5.add (i * 4)).off + 2, none⟩ = some (.string y.val) ∧ W.cell? ⟨(a5.add (i * 4)).block, (a5.add (i * 4)).off + 3, none⟩ = some (.bool y.gone) ∧ W.cell? (a6.add (i * 3)) = some (.string y.n) ∧ W.cell? ⟨(a6.add (i * 3)).block, (a6.add (i * 3)).off + 1, none⟩ = some (.string y.val) ∧ W.cell? ⟨(a6.add (i * 3)).block, (a6.add (i * 3)).off + 2, none⟩ = some (.bool y.gone))) (by kernel_rfl) ⟨s0, s1, s2, s3, u0, u1, u2⟩ (fun hHeld => ?_)
      refine tkV 0 ?_
      refine tkV 1 ?_
      refine tkV 2 ?_
      refine tkV 3 ?_
      refine tkV 4 ?_
      refine tkV 5 ?_
      refine tkV 6 ?_
      refine tkV 7 ?_
      refine tkV 8 ?_
      refine tkB 9 (.bool false) ?_
      refine tkV 10 ?_
      refine tkV 11 ?_
      refine tkV 12 ?_
      refine tkV 13 ?_
      refine tkV 14 ?_
      refine tkV 15 ?_
      refine tkV 16 ?_
      refine aR [17] ?_
      refine AllReadyH.cons (o := _) rfl (fun K hK => ?_) AllReadyH.nil
      go_simp
      go_at_call 29
      refine (K8.out _ _ ra2).mono ?_
      rintro e wk ⟨rfl, ⟨mk, rfl⟩⟩
      refine hK.out _ _ ⟨s0, s1, s2, s3, u0, u1, u2⟩ (fun hHeld2 => ?_)
      clear hK K
      refine pg ?_
      refine tkB 18 (.int .u64 (s : Nat)) ?_
      refine tkB 19 (.bool false) ?_
      refine tkV 20 ?_
      refine wpAnyH_done (by kernel_rfl) ?_ _
      go_wp2_with fail
      go_roundw
      case rel => exact ⟨i + 1, by omega, by go_num, q.drewN (1 + mk)⟩
      case measure => simp [intOf]; omega
    · have h2 : ¬ (i : Int) < (D.length : Int) := by omega
      go_wp2_with fail
      refine (awakeY_any _).mono ?_
      rintro e wz ⟨rfl, qz⟩
      go_wp2_with fail
      go_ret
      exact ⟨rfl, (HP.out.trans q).trans qz⟩

set_option maxRecDepth 100000 in
theorem lifted (os : Os) (started : os.Started) (H : Type) (enc : TypeId × Value → H) :
    ReturnsInHanded {} Try.checked os 4 .any (Rows.changeCountsSpec.pre6 enc Try.prog Try.f4 Rows.changeCountsRow.domain false) (Rows.changeCountsSpec.post enc Try.prog Try.f4 false true false false) := by
  refine returnsInHanded_of_change (C := Try.checked) own started (by kernel_rfl) Try.func4
    (ChangeSpec.witness6 (enc := enc) (C := Try.checked) false ⟨#[], #[.slice none 0 0, .slice none 0 0, .slice none 0 0], []⟩ 8 (by kernel_rfl) (by kernel_rfl) (by kernel_rfl) (by kernel_rfl)) ?_
  intro W base args ds gs before hval0 hW hcnd _
  have hval : ∀ (j : Nat) t v, Try.f4.params[j]? = some t → args[j]? = some v → Value.okWide Try.prog W .any base t v := hval0
  have hW' := hW
  obtain ⟨p, q, hA0, hV, rfl, hfz, hnd⟩ := hW
  have hA : DataW.TrodAll enc Try.prog W 0 (fun _ => true) true Try.f4.params.toList args.toList ds p := hA0
  rw [Try.params4] at hA hval
  obtain ⟨v0, vs0, d0, ds0, p0, q0, hargs, rfl, rfl, h0, r0⟩ := trodAll_cons hA
  obtain ⟨v1, vs1, d1, ds1, p1, q1, rfl, rfl, rfl, h1, r1⟩ := trodAll_cons r0
  obtain ⟨v2, vs2, d2, ds2, p2, q2, rfl, rfl, rfl, h2, r2⟩ := trodAll_cons r1
  obtain ⟨rfl, rfl, rfl⟩ := trodAll_nil r2
  obtain rfl : args = #[v0, v1, v2] := by cases args; simp_all
  obtain ⟨rfl, rfl⟩ := trodVars_none hV
  clear hA0 hval0
  simp only [List.append_nil] at hW'
  have hlt : ∀ x ∈ p0 ++ p1 ++ p2, x.block < W.heap.size := fun x hx => by simpa using hW'.lt x (by simpa using hx)
  obtain ⟨l0, t0, z0⟩ := open_ntes (hval 0 22 v0 rfl rfl) h0
  obtain ⟨l1, t1, z1⟩ := open_ntes (hval 1 22 v1 rfl rfl) h1
  obtain ⟨l2, t2, z2⟩ := open_chgs (hval 2 42 v2 rfl rfl) h2
  refine (walk l0 v0 l1 v1 l2 v2 W t0 z0 t1 z1 t2 z2).mono fun e W' ⟨he, bel⟩ => ?_
  subst he
  refine ⟨_, rfl, _, _, _, [], _, [], hW', trodAll_mk1 (shut_bool Try.underlying4 _), (trodAll_cons_mk (Below.trod laid (by kernel_rfl) (of_decide_eq_true (by kernel_rfl)) h0 bel (fun x hx => hlt x (by simp [hx]))) (trodAll_cons_mk (Below.trod laid (by kernel_rfl) (of_decide_eq_true (by kernel_rfl)) h1 bel (fun x hx => hlt x (by simp [hx]))) (trodAll_cons_mk (Below.trod laid (by kernel_rfl) (of_decide_eq_true (by kernel_rfl)) h2 bel (fun x hx => hlt x (by simp [hx]))) trodAll_mk0))), rfl, Below.frame bel _, fun h => by cases h⟩

theorem over : Rows.changeCountsRow.holds Try.pinned (OpenSpec.ofChange Rows.changeCountsSpec) :=
  OpenClaim.holds_of_wide 4 Try.f4 rfl rfl rfl rfl rfl rfl rfl ⟨rfl, rfl, rfl, rfl, rfl⟩ rfl rfl rfl rfl rfl (by kernel_rfl) Try.func4 (by kernel_rfl)
    (of_decide_eq_true (by kernel_rfl)) (by unfold Func.isWrapper; first | (rw [if_pos (by decide +kernel)]; kernel_rfl) | (rw [if_neg (by decide +kernel)]; exact ⟨rfl, rfl⟩))
    (fun os started H enc _ => lifted os started H enc)

theorem proved : Rows.ChangeCountsSaid := over
#print axioms proved
end Go.Proofs.Ythlbpjopkaninaa.changeCounts
