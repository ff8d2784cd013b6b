/-
  The walk of ItemsGoes.
-/
import Derived.Test.YtbilnomafloopaaGreatNn
namespace Go.Proofs.YtbilnomafloopaaGreat.itemsGoes
set_option maxRecDepth 100000
open Go.ChangeShapes Go.WideShapes Go.ChangeAt Go.RowKit
set_option linter.unusedVariables false
set_option linter.unusedSimpArgs false

theorem with_more {X Y Z : List Itm} {p q : List Chg} (hX : Asc Itm.n X) (hY : Asc Itm.n Y) (hZ : Asc Itm.n Z) (hp : DiffIs X Y p) (hq : DiffIs Y Z q) : withI X (p ++ q) = Z := by
  have h1 := with_diff hX hY hp
  have h2 := with_diff hY hZ hq
  unfold withI at h1 h2 ⊢
  rw [List.foldl_append, h1]
  rw [ofI_self hY] at h2
  exact h2
theorem none_made (w : World) (t : TypeId) : OwnH w.heap.size (w.alloc (.cells #[] 72)) (.slice (some ⟨w.heap.size, 0, none⟩) 0 0) [] := World.ownsRow_made w #[] 0 (Nat.le_refl _) (by unfold maxLen; omega) (by simp)
set_option maxHeartbeats 8000000 in
set_option maxRecDepth 100000 in
theorem walk (a : Dep) (va : Value) (b : Dep) (vb : Value) (c : Dep) (vc : Value) (w : World) (t0 : Bks w w.heap.size va a.L) (z0 : a.L.length ≤ maxLen) (t1 : Bks w w.heap.size vb b.L) (z1 : b.L.length ≤ maxLen) (t2 : Bks w w.heap.size vc c.L) (z2 : c.L.length ≤ maxLen) :
    Calls Tryz.prog 6 #[.agg #[.int .i64 a.now, va], .agg #[.int .i64 b.now, vb], .agg #[.int .i64 c.now, vc]] w fun e w' => e = .returned (.bool true) ∧ Q w w' := by
  have F1 := Lib.hid (fun (x : World) (q : Q w x) => fewD_any a va x z0 (t0.on q))
  have F2 := Lib.hid (fun (x : World) (q : Q w x) => fewD_any b vb x z1 (t1.on q))
  have F3 := Lib.hid (fun (x : World) (q : Q w x) => fewD_any c vc x z2 (t2.on q))
  obtain ⟨R1, h1⟩ := chk_ex (okD (fewD a))
  obtain ⟨R2, h2⟩ := chk_ex (okD (fewD b))
  obtain ⟨R3, h3⟩ := chk_ex (okD (fewD c))
  have O1 := Lib.hid (fun (x : World) (v : Value) (h : Bks x x.heap.size v (fewD a).L) => of_all (fewD a) v x R1 h1 (fewD_sm a) h)
  have O2 := Lib.hid (fun (x : World) (v : Value) (h : Bks x x.heap.size v (fewD b).L) => of_all (fewD b) v x R2 h2 (fewD_sm b) h)
  have O3 := Lib.hid (fun (x : World) (v : Value) (h : Bks x x.heap.size v (fewD c).L) => of_all (fewD c) v x R3 h3 (fewD_sm c) h)
  obtain ⟨A, hA⟩ : ∃ A, A = fewD a := ⟨_, rfl⟩
  obtain ⟨B, hB⟩ : ∃ B, B = fewD b := ⟨_, rfl⟩
  obtain ⟨C, hC⟩ : ∃ C, C = fewD c := ⟨_, rfl⟩
  rw [← hA] at F1 O1
  rw [← hB] at F2 O2
  rw [← hC] at F3 O3
  obtain ⟨Aa, ca, rfl⟩ := t0.form
  obtain ⟨Ab, cb, rfl⟩ := t1.form
  obtain ⟨Ac, cc, rfl⟩ := t2.form
  obtain ⟨W0, hW0⟩ : ∃ z, z = ((w.alloc (.cells #[.int .i64 a.now, .slice Aa a.L.length ca] 24)).alloc (.cells #[.int .i64 b.now, .slice Ab b.L.length cb] 24)).alloc (.cells #[.int .i64 c.now, .slice Ac c.L.length cc] 24) := ⟨_, rfl⟩
  have q0 : Q w W0 := by rw [hW0]; exact (((Q.refl w).alloc _).alloc _).alloc _
  have n0 : Bx W0 w.heap.size 24 #[.int .i64 a.now, .slice Aa a.L.length ca] := by rw [hW0]; exact ((Bx.new w _ _).alloc _).alloc _
  have n1 : Bx W0 (w.heap.size + 1) 24 #[.int .i64 b.now, .slice Ab b.L.length cb] := by
    have := (Bx.new (w.alloc (.cells #[.int .i64 a.now, .slice Aa a.L.length ca] 24)) 24 #[.int .i64 b.now, .slice Ab b.L.length cb]).alloc (.cells #[.int .i64 c.now, .slice Ac c.L.length cc] 24)
    rw [hW0]; simpa using this
  have n2 : Bx W0 (w.heap.size + 1 + 1) 24 #[.int .i64 c.now, .slice Ac c.L.length cc] := by
    have := Bx.new ((w.alloc (.cells #[.int .i64 a.now, .slice Aa a.L.length ca] 24)).alloc (.cells #[.int .i64 b.now, .slice Ab b.L.length cb] 24)) 24 #[.int .i64 c.now, .slice Ac c.L.length cc]
    rw [hW0]; simpa using this
  have c0 := n0.cell 0
  have c1 := n0.cell 1
  have BB : Hid (∀ x, Q W0 x → x.cell? ⟨w.heap.size + 1, 0, none⟩ = some (.int .i64 b.now) ∧ x.cell? ⟨w.heap.size + 1, 1, none⟩ = some (.slice Ab b.L.length cb)) := Lib.hid fun x q => ⟨(n1.on q).cell 0, (n1.on q).cell 1⟩
  have BC : Hid (∀ x, Q W0 x → x.cell? ⟨w.heap.size + 1 + 1, 0, none⟩ = some (.int .i64 c.now) ∧ x.cell? ⟨w.heap.size + 1 + 1, 1, none⟩ = some (.slice Ac c.L.length cc)) := Lib.hid fun x q => ⟨(n2.on q).cell 0, (n2.on q).cell 1⟩
  simp only [List.getElem?_toArray, List.getElem?_cons_zero, List.getElem?_cons_succ] at c0 c1
  have HW0 := Lib.hid hW0.symm
  have HQ0 := Lib.hid q0
  clear hA hB hC t0 t1 t2 z0 z1 z2 n0 n1 n2 hW0 q0 h1 h2 h3
  go_enter Tryz.func6, Tryz.ntmps6
  go_upto_region 1 with fail
  rw [HW0.out]
  go_wp2_with fail
  refine (F1.out _ HQ0.out).mono ?_
  rintro e w1 ⟨A1, k1, rfl, o1, q1⟩
  have r1 := (o1.own q1.size).read
  clear F1 c0 c1 o1
  go_wp2_with fail
  refine (O1.out _ _ r1).mono ?_
  rintro e w2 ⟨v2, rfl, q2, -, y2⟩
  have p2 := q1.trans q2
  obtain ⟨c0, c1⟩ := BB.out _ p2
  clear O1 r1 q1 q2
  go_wp2_with fail
  refine (F2.out _ (HQ0.out.trans p2)).mono ?_
  rintro e w3 ⟨A3, k3, rfl, o3, q3⟩
  have r3 := (o3.own q3.size).read
  clear F2 c0 c1 o3
  go_wp2_with fail
  refine (O2.out _ _ r3).mono ?_
  rintro e w4 ⟨v4, rfl, q4, -, y4⟩
  have p4 := p2.trans (q3.trans q4)
  have m4 := q3.trans q4
  obtain ⟨c0, c1⟩ := BC.out _ p4
  clear O2 r3 q3 q4
  go_wp2_with fail
  refine (F3.out _ (HQ0.out.trans p4)).mono ?_
  rintro e w5 ⟨A5, k5, rfl, o5, q5⟩
  have r5 := (o5.own q5.size).read
  clear F3 c0 c1 o5
  go_wp2_with fail
  refine (O3.out _ _ r5).mono ?_
  rintro e w6 ⟨v6, rfl, q6, -, y6⟩
  have m6 := q5.trans q6
  have p6 := HQ0.out.trans (p4.trans m6)
  clear O3 r5 q5 q6 p2 p4
  cases R1 with
  | false =>
    clear y2 y4 y6
    go_wp2_with fail
    refine (awakeI_any _).mono ?_
    rintro e wz ⟨rfl, qz⟩
    go_wp2_with fail
    go_ret
    exact ⟨rfl, p6.trans qz⟩
  | true =>
  cases R2 with
  | false =>
    clear y2 y4 y6
    go_wp2_with fail
    refine (awakeI_any _).mono ?_
    rintro e wz ⟨rfl, qz⟩
    go_wp2_with fail
    go_ret
    exact ⟨rfl, p6.trans qz⟩
  | true =>
  cases R3 with
  | false =>
    clear y2 y4 y6
    go_wp2_with fail
    refine (awakeI_any _).mono ?_
    rintro e wz ⟨rfl, qz⟩
    go_wp2_with fail
    go_ret
    exact ⟨rfl, p6.trans qz⟩
  | true =>
  obtain ⟨X, ⟨-, hX, okX, lX⟩, oX⟩ := y2 rfl
  obtain ⟨Y, ⟨-, hY, okY, lY⟩, oY⟩ := y4 rfl
  obtain ⟨Z, ⟨-, hZ, okZ, lZ⟩, oZ⟩ := y6 rfl
  have xx6 := Lib.hid (((OwnI.read oX okX).on m4).on m6)
  have yy6 := Lib.hid ((OwnI.read oY okY).on m6)
  have zz6 := Lib.hid (OwnI.read oZ okZ)
  clear y2 y4 y6 m4 m6 oX oY oZ
  have D1 := Lib.hid (fun (x : World) (u v : Value) (h : Itms x x.heap.size u X) (k : Itms x x.heap.size v Y) => diff_any X Y u v x (by omega) (by omega) h k)
  have D2 := Lib.hid (fun (x : World) (u v : Value) (h : Itms x x.heap.size u Y) (k : Itms x x.heap.size v Z) => diff_any Y Z u v x (by omega) (by omega) h k)
  rw [ofI_self hX, ofI_self hY] at D1
  rw [ofI_self hY, ofI_self hZ] at D2
  have HX := Lib.hid (And.intro hX okX)
  have HY := Lib.hid (And.intro hY okY)
  have HZ := Lib.hid (And.intro hZ okZ)
  clear hX okX hY okY hZ okZ
  go_wp2_with fail
  refine (D1.out _ _ _ xx6.out yy6.out).mono ?_
  rintro e w7 ⟨v7, rfl, p, o7, hp, q7⟩
  have okp : ∀ x ∈ p, okH x := fun x hx => by
    have := diff_ok (p := fun n v => n.size ≤ maxLen ∧ v.size ≤ maxLen) HX.out.2 HY.out.2 (fun n v h => ⟨h.1, Nat.zero_le _⟩) hp x hx
    exact ⟨this.1, this.2, trivial⟩
  have lp := diff_len HX.out.1 HY.out.1 hp
  have r7 := Lib.hid (OwnH.read o7 okp)
  have x7 := Lib.hid (xx6.out.on q7)
  have y7 := Lib.hid (yy6.out.on q7)
  have z7 := Lib.hid (zz6.out.on q7)
  have HP := Lib.hid hp
  have p7 := p6.trans q7
  clear D1 o7 hp okp xx6 yy6 zz6 q7 p6
  go_wp2_with fail
  refine (D2.out _ _ _ y7.out z7.out).mono ?_
  rintro e w8 ⟨v8, rfl, q, o8, hq, q8⟩
  have okq : ∀ x ∈ q, okH x := fun x hx => by
    have := diff_ok (p := fun n v => n.size ≤ maxLen ∧ v.size ≤ maxLen) HY.out.2 HZ.out.2 (fun n v h => ⟨h.1, Nat.zero_le _⟩) hq x hx
    exact ⟨this.1, this.2, trivial⟩
  have lq := diff_len HY.out.1 HZ.out.1 hq
  have s8 := Lib.hid (OwnH.read o8 okq)
  have r8 := Lib.hid (r7.out.on q8)
  have x8 := Lib.hid (x7.out.on q8)
  have y8 := Lib.hid (y7.out.on q8)
  have z8 := Lib.hid (z7.out.on q8)
  have HG := Lib.hid hq
  have p8 := p7.trans q8
  clear D2 o8 hq okq x7 y7 z7 r7 q8 p7
  have W1 := Lib.hid (fun (x : World) (u v : Value) (h : Itms x x.heap.size u X) (k : Chgs x x.heap.size v p) => with_anyZ X p u v x (by omega) (by omega) HX.out.2 h k)
  have W2 := Lib.hid (fun (x : World) (u v : Value) (h : Itms x x.heap.size u Y) (k : Chgs x x.heap.size v q) => with_anyZ Y q u v x (by omega) (by omega) HY.out.2 h k)
  have W3 := Lib.hid (fun (x : World) (u v : Value) (h : Itms x x.heap.size u X) (k : Chgs x x.heap.size v (p ++ q)) => with_anyZ X (p ++ q) u v x (by omega) (by rw [List.length_append]; omega) HX.out.2 h k)
  rw [with_diff HX.out.1 HY.out.1 HP.out] at W1
  rw [with_diff HY.out.1 HZ.out.1 HG.out] at W2
  rw [with_more HX.out.1 HY.out.1 HZ.out.1 HP.out HG.out] at W3
  have S1 := Lib.hid (fun (x : World) (u v : Value) (h : Itms x x.heap.size u Y) (k : Itms x x.heap.size v Y) => isame_any Y Y u v x (by omega) (by omega) h k)
  have S2 := Lib.hid (fun (x : World) (u v : Value) (h : Itms x x.heap.size u Z) (k : Itms x x.heap.size v Z) => isame_any Z Z u v x (by omega) (by omega) h k)
  have hdt : decide (Y = Y) = true := by simp
  rw [hdt] at S1
  have hdt2 : decide (Z = Z) = true := by simp
  rw [hdt2] at S2
  have LL : Hid (p.length ≤ 26402 ∧ q.length ≤ 26402) := Lib.hid ⟨by omega, by omega⟩
  clear hdt hdt2 lp lq lX lY lZ
  obtain ⟨A7, c7, rfl⟩ := r8.out.form
  obtain ⟨A8, c8, rfl⟩ := s8.out.form
  go_wp2_with fail
  refine (W1.out _ _ _ x8.out r8.out).mono ?_
  rintro e w9 ⟨v9, rfl, o9, q9⟩
  have y9' := Lib.hid (OwnI.read o9 HY.out.2)
  have x9 := Lib.hid (x8.out.on q9)
  have y9 := Lib.hid (y8.out.on q9)
  have z9 := Lib.hid (z8.out.on q9)
  have r9 := Lib.hid (r8.out.on q9)
  have s9 := Lib.hid (s8.out.on q9)
  have p9 := p8.trans q9
  clear o9 x8 y8 z8 r8 s8 q9 p8
  go_wp2_with fail
  refine (S1.out _ _ _ y9'.out y9.out).mono ?_
  rintro e w10 ⟨rfl, d10⟩
  have q10 := d10.q
  have x10 := Lib.hid (x9.out.on q10)
  have y10 := Lib.hid (y9'.out.on q10)
  have z10 := Lib.hid (z9.out.on q10)
  have r10 := Lib.hid (r9.out.on q10)
  have s10 := Lib.hid (s9.out.on q10)
  have p10 := p9.trans q10
  clear S1 x9 y9 y9' z9 r9 s9 q10 d10 p9
  go_wp2_with fail
  refine (W1.out _ _ _ x10.out r10.out).mono ?_
  rintro e w11 ⟨v11, rfl, o11, q11⟩
  have y11 := Lib.hid (OwnI.read o11 HY.out.2)
  have x11 := Lib.hid (x10.out.on q11)
  have z11 := Lib.hid (z10.out.on q11)
  have r11 := Lib.hid (r10.out.on q11)
  have s11 := Lib.hid (s10.out.on q11)
  have p11 := p10.trans q11
  clear W1 o11 x10 y10 z10 r10 s10 q11 p10
  go_wp2_with fail
  refine (W2.out _ _ _ y11.out s11.out).mono ?_
  rintro e w12 ⟨v12, rfl, o12, q12⟩
  have y12 := Lib.hid (OwnI.read o12 HZ.out.2)
  have x12 := Lib.hid (x11.out.on q12)
  have z12 := Lib.hid (z11.out.on q12)
  have r12 := Lib.hid (r11.out.on q12)
  have s12 := Lib.hid (s11.out.on q12)
  have p12 := p11.trans q12
  clear W2 o12 x11 y11 z11 r11 s11 q12 p11
  go_wp2_with fail
  refine (S2.out _ _ _ y12.out z12.out).mono ?_
  rintro e w13 ⟨rfl, d13⟩
  have q13 := d13.q
  have x13 := Lib.hid (x12.out.on q13)
  have z13 := Lib.hid (z12.out.on q13)
  have r13 := Lib.hid (r12.out.on q13)
  have s13 := Lib.hid (s12.out.on q13)
  have p13 := p12.trans q13
  clear x12 y12 z12 r12 s12 q13 d13 p12
  have own0 := none_made w13 72
  have qn := (Q.refl w13).alloc (.cells #[] 72)
  have r14 := r13.out.on qn
  have hlp := LL.out.1
  have hlq := LL.out.2
  go_wp2_with (first | (at_builtin; refine wpList_append_chg _ rfl _ _ 40 Tryz.underlying40 rfl w13.heap.size _ _ [] p rfl rfl own0 r14 ?hb ?hl ?_; (case hb => simp); (case hl => simp; omega); intro v15 w15 o15 g15; have q15 : Q w13 w15 := Below.grown qn g15 qn.size (fun k hk => (World.ownsRow.lt own0 k hk).1); have s15 := s13.out.on q15; clear own0 qn r14 g15) | (at_builtin; refine wpList_append_chg _ rfl _ _ 40 Tryz.underlying40 rfl w13.heap.size _ _ p q rfl rfl o15 s15 ?hb ?hl ?_; (case hb => exact q15.size); (case hl => omega); intro v16 w16 o16 g16; have q16 : Q w13 w16 := Below.grown q15 g16 q15.size (fun k hk => (World.ownsRow.lt o15 k hk).1); clear g16))
  have x16 := x13.out.on q16
  have z16 := Lib.hid (z13.out.on q16)
  have okpq : ∀ x ∈ p ++ q, okH x := fun x hx => by
    rcases List.mem_append.1 hx with h | h
    · exact r13.out.okAll x h
    · exact s13.out.okAll x h
  have c16 := OwnH.read o16 okpq
  have p16 := p13.trans q16
  clear okpq o15 o16 q15 q16 s15 p13 hlp hlq
  refine (W3.out _ _ _ x16 c16).mono ?_
  rintro e w17 ⟨v17, rfl, o17, q17⟩
  have z17 := OwnI.read o17 HZ.out.2
  have z17' := z16.out.on q17
  have p17 := p16.trans q17
  clear W3 o17 x16 c16
  go_wp2_with fail
  refine (S2.out _ _ _ z17 z17').mono ?_
  rintro e w18 ⟨rfl, d18⟩
  have p18 := p17.trans d18.q
  clear S2 z17 z17'
  go_wp2_with fail
  refine (awakeI_any _).mono ?_
  rintro e wz ⟨rfl, qz⟩
  go_wp2_with fail
  go_ret
  exact ⟨rfl, p18.trans qz⟩
end Go.Proofs.YtbilnomafloopaaGreat.itemsGoes
