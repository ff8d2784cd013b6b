/-
  Proved: whatever two lists of notes ChangeTurns is called with, it returns true and leaves what it was given as it was. No condition.
-/
import Derived.Test.YthlbpjopkaninaaNh
import Derived.Test.YthlbpjopkaninaaNi
namespace Go.Proofs.Ythlbpjopkaninaa.changeTurns
set_option maxRecDepth 100000
open Go.ChangeShapes Go.WideShapes Go.ChangeAt Go.RowKit
open Go.ChangeMaps (open_string shut_string)
set_option linter.unusedVariables false
set_option linter.unusedSimpArgs false

theorem wpList_append_nteG {ops : Array Oper} {rest : List Oper} {o : Oper} {a : Act} {Q : Exit → Act → World → Prop} (w : World) (hgd : Region.wanted o (yielded ops a.tmps) = true) (s x : Operand) (t : TypeId)
    (htt : Try.prog.underlying t = some (.slice 39)) (ho : o.op = .call { callee := .builtin .append, args := #[s, x], argTypes := #[t, t] })
    (base B : Nat) (v : Value) (l m : List Nte) {A : Option Addr} {n c : Nat} (hs : a.eval s = v) (hx : a.eval x = .slice A n c) (h : OwnW base w v l)
    (g : Ntes w B (.slice A n c) m) (hb : base ≤ w.heap.size) (hl : l.length + m.length ≤ 4000000)
    (k : ∀ v' w', OwnW base w' v' (l ++ m) → w.grownBy w' v.ownBlock → wpList Try.prog ops Q rest (a.put o.dst v') w') : wpList Try.prog ops Q (o :: rest) a w := by
  refine wpList_step fun K hK => ?_
  rw [if_pos hgd]
  obtain ⟨v', w', h1, h2, h3⟩ := run_append_nte w base B t o.type htt v l m h g hb hl
  unfold Oper.wp execOp
  simp only [ho, resolve, invoke, builtin, Sem.run_bind, Sem.run_pure, Result.andThen_ok, List.map_toArray, List.map_cons, List.map_nil, hs, hx, h1]
  exact hK _ _ (k v' w' h2 h3)
theorem own_apart {w w' : World} {base : Nat} {v u : Value} {l : List Nte} (h : OwnW base w v l) (g : w.grownBy w' u.ownBlock) (hb : ∀ k, u.ownBlock = some k → k < base) : OwnW base w' v l := by
  refine World.ownsRow.kept h g ?_
  cases hv : v.ownBlock with
  | none => exact .inl rfl
  | some k =>
    right
    intro e
    have h1 := hb k e.symm
    have h2 := (World.ownsRow.lt h k hv).1
    omega
set_option maxHeartbeats 8000000 in
set_option maxRecDepth 100000 in
theorem walk (a : List Nte) (va : Value) (b : List Nte) (vb : Value) (w : World) (t0 : Ntes w w.heap.size va a) (z0 : a.length ≤ maxLen) (t1 : Ntes w w.heap.size vb b) (z1 : b.length ≤ maxLen) :
    Calls Try.prog 5 #[va, vb] w fun e w' => e = .returned (.bool true) ∧ Q w w' := by
  have F1 := Lib.hid (fewNs_any a va w z0 t0)
  have F2 := Lib.hid (fun (x : World) (q : Q w x) => fewNs_any b vb x z1 (t1.on q))
  have okA : ∀ x ∈ fewNs a, okW x := fewNs_okW t0.okAll
  have lA := fewNs_len a
  have okB : ∀ x ∈ fewNs b, okW x := fewNs_okW t1.okAll
  have lB := fewNs_len b
  obtain ⟨A, hA⟩ : ∃ A, A = fewNs a := ⟨_, rfl⟩
  rw [← hA] at F1 okA lA
  obtain ⟨B, hB⟩ : ∃ B, B = fewNs b := ⟨_, rfl⟩
  rw [← hB] at F2 okB lB
  clear hA hB t0 z0 t1 z1
  obtain ⟨L, hL⟩ : ∃ L, L = A ++ B := ⟨_, rfl⟩
  have okLL : ∀ x ∈ L, okW x := fun x hx => by
    rw [hL] at hx
    rcases List.mem_append.1 hx with h | h
    · exact okA x h
    · exact okB x h
  have lL : L.length ≤ 202 := by rw [hL, List.length_append]; omega
  have OA := Lib.hid okA
  have OB := Lib.hid okB
  have OL := Lib.hid okLL
  have HL := Lib.hid hL
  have hmm := @run_makeMap Try.prog
  clear okA okB okLL hL
  go_enter Try.func5, Try.ntmps5
  go_wp2_with fail
  refine (F1.out).mono ?_
  rintro e w1 ⟨v1, rfl, o1, q1⟩
  go_wp2_with fail
  refine (F2.out _ q1).mono ?_
  rintro e w2 ⟨v2, rfl, o2, q2⟩
  have ra := Lib.hid ((OwnW.read o1 OA.out).on q2)
  have rb := Lib.hid (OwnW.read o2 OB.out)
  have P2 := Lib.hid (q1.trans q2)
  obtain ⟨A1, c1, rfl⟩ := ra.out.form
  obtain ⟨A2, c2, rfl⟩ := rb.out.form
  have own0 := noneN_made w2
  have qn := (Q.refl w2).alloc (.cells #[] 39)
  have r4 := ra.out.on qn
  clear F1 F2 o1 o2 q1 q2
  go_wp2_with (at_builtin; first
    | (refine wpList_append_nte _ rfl _ _ 22 Try.underlying22 rfl w2.heap.size _ (.slice (some ⟨w2.heap.size, 0, none⟩) 0 0) [] A rfl rfl own0 r4 ?hb ?hl ?_; (case hb => simp); (case hl => simp; omega); intro v3 w3 o3 g3; have q3 : Q w2 w3 := Below.grown qn g3 qn.size (fun k hk => (World.ownsRow.lt own0 k hk).1); clear own0 r4 g3)
    | (have r6 := rb.out.on q3; refine wpList_append_nte _ rfl _ _ 22 Try.underlying22 rfl w2.heap.size _ _ A B rfl rfl o3 r6 ?hb ?hl ?_; (case hb => exact q3.size); (case hl => omega); intro v4 w4 o4 g4; have q4 : Q w2 w4 := Below.grown q3 g4 q3.size (fun k hk => (World.ownsRow.lt o3 k hk).1); clear r6 o3 g4))
  have o4 : OwnW w2.heap.size w4 v4 L := by rw [HL.out]; exact o4
  have rd := OwnW.read o4 OL.out
  have P4 := Lib.hid (P2.out.trans q4)
  have ra := Lib.hid (ra.out.on q4)
  have rb := Lib.hid (rb.out.on q4)
  have RD := Lib.hid rd
  obtain ⟨A4, c4, rfl, -, -, -, hcells⟩ := rd
  have HC := Lib.hid hcells
  have m0 := MetN.made w4
  have q0 := (Q.refl w4).alloc (.map #[] 0)
  obtain ⟨W0, hW0⟩ : ∃ z, z = w4.alloc (.map #[] 0) := ⟨_, rfl⟩
  rw [← hW0] at m0 q0
  have HM0 := Lib.hid m0
  have HQ0 := Lib.hid q0
  clear m0 q0 hcells o4 q3 q4 P2 qn
  rw [← hW0]
  clear hW0 hmm
  go_loopw [7, 8] (fun I G wr => ∃ i : Nat, i ≤ L.length ∧ I = .int .i64 i ∧ MetN w4.heap.size (L.take i) wr ∧ Q w4 wr ∧ Hid (apartN (L.take i))) (fun I _ _ => L.length - (intOf I).toNat)
  case atStart => exact ⟨0, Nat.zero_le _, rfl, HM0.out, HQ0.out, Lib.hid (by simp [apartN])⟩
  case round =>
    obtain ⟨i, hil, rfl, hm, q, HAP⟩ := hrel
    by_cases hlt : i < L.length
    · obtain ⟨a, hae, ha, hat⟩ := HC.out i hlt
      subst hae
      obtain ⟨d0, d1, d2, d3⟩ := hat.keep (by rw [add_block]; exact ha) fun _ hp => q.cell hp
      have HOK := Lib.hid (OL.out _ (List.getElem_mem hlt))
      have HSub : Hid (∀ x ∈ L.take i, okW x) := Lib.hid (fun x hx => OL.out x (List.mem_of_mem_take hx))
      have HTS : Hid (L.take (i + 1) = L.take i ++ [L[i]]) := Lib.hid (List.take_succ_eq_append_getElem hlt)
      have HST := Lib.hid (fun g => apartN_step hlt HAP.out g)
      have HAT : Hid (∀ x, Q w4 x → AtW x (a.add (i * 4)) L[i]) := Lib.hid fun x qx => hat.keep (by rw [add_block]; exact ha) fun p hp => qx.cell hp
      obtain ⟨y, hy⟩ : ∃ y, y = L[i] := ⟨_, rfl⟩
      rw [← hy] at d0 d1 d2 d3 HOK HTS HST HAT
      clear hy hat
      have hilt : (i : Int) < (L.length : Int) := by omega
      have q5 := (q.alloc (.cells #[.int .u64 (y.st : Nat), .string y.n, .string ⟨#[]⟩, .bool false] 39)).drew
      have m5 := (hm.on ((Q.refl wr).alloc (.cells #[.int .u64 (y.st : Nat), .string y.n, .string ⟨#[]⟩, .bool false] 39))).on ((Q.refl _).drew)
      have bx := (Bx.new wr 39 #[.int .u64 (y.st : Nat), .string y.n, .string ⟨#[]⟩, .bool false]).on ((Q.refl _).drew)
      have KS : Hid (∀ x, Q w4 x → (fun W => W.cell? (a.add (i * 4)) = some (.int .u64 (y.st : Nat)) ∧ W.cell? ⟨(a.add (i * 4)).block, (a.add (i * 4)).off + 1, none⟩ = some (.string y.n)) x) := Lib.hid fun x qx => ⟨(HAT.out x qx).1, (HAT.out x qx).2.1⟩
      go_wp2_with fail
      refine wp_region_held_drew (S := (fun W => W.cell? (a.add (i * 4)) = some (.int .u64 (y.st : Nat)) ∧ W.cell? ⟨(a.add (i * 4)).block, (a.add (i * 4)).off + 1, none⟩ = some (.string y.n))) (by kernel_rfl) (KS.out _ q.drew) (fun hHeld => ?_)
      refine tkV 0 ?_
      refine tkV 1 ?_
      refine tkV 2 ?_
      refine tkV 3 ?_
      refine tkV 4 ?_
      refine tkV 5 ?_
      refine tkV 6 ?_
      refine tkV 7 ?_
      refine tkV 8 ?_
      refine tkV 9 ?_
      refine tkV 10 ?_
      refine tkV 11 ?_
      refine tkV 12 ?_
      refine aR [13] ?_
      refine AllReadyH.cons (o := _) rfl (fun K hK => ?_) AllReadyH.nil
      go_simp
      refine hK.out _ _ (KS.out _ (q.drew.alloc _)) (fun hHeld2 => ?_)
      clear hK K
      refine pg ?_
      refine aR [14] ?_
      refine AllReadyH.cons (o := _) rfl (fun K hK => ?_) AllReadyH.nil
      go_simp
      refine hK.out _ _ (KS.out _ q5) (fun hHeld3 => ?_)
      clear hK K
      refine pg ?_
      refine wpAnyH_done (by kernel_rfl) ?_ _
      obtain ⟨W7, hW7⟩ : ∃ z, z = (wr.alloc (.cells #[.int .u64 (y.st : Nat), .string y.n, .string ⟨#[]⟩, .bool false] 39)).drew := ⟨_, rfl⟩
      rw [← hW7] at q5 m5 bx
      rw [← hW7]
      obtain ⟨b0, b1, b2, b3⟩ : W7.cell? ⟨wr.heap.size, 0, none⟩ = some (.int .u64 (y.st : Nat)) ∧ W7.cell? ⟨wr.heap.size, 1, none⟩ = some (.string y.n) ∧ W7.cell? ⟨wr.heap.size, 2, none⟩ = some (.string ⟨#[]⟩) ∧ W7.cell? ⟨wr.heap.size, 3, none⟩ = some (.bool false) := ⟨bx.cell 0, bx.cell 1, bx.cell 2, bx.cell 3⟩
      have hput := fun g => m5.put HSub.out HOK.out g
      rcases m5.look HSub.out HOK.out with ⟨-, hrun⟩ | ⟨hno, hrun⟩
      · rw [idV] at hrun
        have q9 := P4.out.trans q5
        clear hput m5 hm bx hW7 HM0 HQ0 HST hHeld hHeld2 hHeld3
        go_wp2_with fail
        refine (awakeY_any _).mono ?_
        rintro e wz ⟨rfl, qz⟩
        go_wp2_with fail
        go_ret
        exact ⟨rfl, q9.trans qz⟩
      · rw [idV] at hrun
        obtain ⟨w8, hrun8, m8, k8, -⟩ := hput hno
        have q8 := k8.q q5 (Nat.le_refl _)
        rw [← HTS.out] at m8
        have HAP9 := Lib.hid (HST.out hno)
        rw [idV] at hrun8
        have RUN := Lib.hid hrun8
        clear hput m5 hm bx hW7 HM0 HQ0 HST hHeld hHeld2 hHeld3 hrun8 k8 hno
        go_wp2_with (at_mapUpdate; refine wpList_run_put RUN.out rfl _ _ _ rfl rfl rfl rfl ?_)
        go_roundw
        case rel => exact ⟨i + 1, by omega, by go_num, m8, q8, HAP9⟩
        case measure => simp [intOf]; omega
    · have h2 : ¬ (i : Int) < (L.length : Int) := by omega
      have hti : L.take i = L := List.take_of_length_le (by omega)
      rw [hti] at HAP
      have hone := apartN_one HAP.out
      have ra := Lib.hid (ra.out.on q)
      have rb := Lib.hid (rb.out.on q)
      have rd := Lib.hid (RD.out.on q)
      have p0 := P4.out.trans q
      have PP := Lib.hid p0
      have c1e : cntN (B ++ A) = cntN L := (cntN_set hone (fun x => by rw [HL.out]; simp only [List.mem_append]; exact Or.comm)).symm
      have c2e : cntN ((B ++ A) ++ L) = cntN L := (cntN_set hone (fun x => by rw [HL.out]; simp only [List.mem_append]; constructor <;> (intro h; first | (rcases h with h | h <;> simp [h]; done) | (rcases h with (h | h) | (h | h) <;> simp [h])))).symm
      have c3e : cntN (cntN B ++ cntN A) = cntN L := by rw [HL.out]; exact cntN_parts (by rw [← HL.out]; exact hone)
      have lA2 := Nat.le_trans (cntN_len A) lA
      have lB2 := Nat.le_trans (cntN_len B) lB
      have lX := Nat.le_trans (cntN_len L) lL
      have OX := Lib.hid (cntN_okW OL.out)
      have OA2 := Lib.hid (cntN_okW OA.out)
      have OB2 := Lib.hid (cntN_okW OB.out)
      have K1 := Lib.hid (fun (x : World) (u : Value) (h : Ntes x x.heap.size u L) => countN_any L u x (by omega) h)
      have K2 := Lib.hid (fun (x : World) (u : Value) (h : Ntes x x.heap.size u (B ++ A)) => countN_any (B ++ A) u x (by rw [List.length_append]; omega) h)
      have K3 := Lib.hid (fun (x : World) (u : Value) (h : Ntes x x.heap.size u ((B ++ A) ++ L)) => countN_any ((B ++ A) ++ L) u x (by rw [List.length_append, List.length_append]; omega) h)
      have K4 := Lib.hid (fun (x : World) (u : Value) (h : Ntes x x.heap.size u (cntN B ++ cntN A)) => countN_any (cntN B ++ cntN A) u x (by rw [List.length_append]; omega) h)
      have K5 := Lib.hid (fun (x : World) (u : Value) (h : Ntes x x.heap.size u A) => countN_any A u x (by omega) h)
      have K6 := Lib.hid (fun (x : World) (u : Value) (h : Ntes x x.heap.size u B) => countN_any B u x (by omega) h)
      rw [c1e] at K2
      rw [c2e] at K3
      rw [c3e] at K4
      have OT : Hid (∀ x ∈ B ++ A, okW x) := Lib.hid (fun x hx => by
        rcases List.mem_append.1 hx with h | h
        · exact OB.out x h
        · exact OA.out x h)
      have OTL : Hid (∀ x ∈ (B ++ A) ++ L, okW x) := Lib.hid (fun x hx => by
        rcases List.mem_append.1 hx with h | h
        · exact OT.out x h
        · exact OL.out x h)
      have OP : Hid (∀ x ∈ cntN B ++ cntN A, okW x) := Lib.hid (fun x hx => by
        rcases List.mem_append.1 hx with h | h
        · exact OB2.out x h
        · exact OA2.out x h)
      have lT : (B ++ A).length ≤ 202 := by rw [List.length_append]; omega
      obtain ⟨X, hX⟩ : ∃ X, X = cntN L := ⟨_, rfl⟩
      obtain ⟨XA, hXA⟩ : ∃ X, X = cntN A := ⟨_, rfl⟩
      obtain ⟨XB, hXB⟩ : ∃ X, X = cntN B := ⟨_, rfl⟩
      rw [← hX] at K1 K2 K3 K4 OX lX
      rw [← hXA] at K4 K5 OA2 OP lA2
      rw [← hXB] at K4 K6 OB2 OP lB2
      obtain ⟨T, hT⟩ : ∃ T, T = B ++ A := ⟨_, rfl⟩
      obtain ⟨TL, hTL⟩ : ∃ T1, T1 = T ++ L := ⟨_, rfl⟩
      obtain ⟨P, hP⟩ : ∃ P, P = XB ++ XA := ⟨_, rfl⟩
      rw [← hT] at K2 K3 OT OTL lT
      rw [← hTL] at K3 OTL
      rw [← hP] at K4 OP
      have HT := Lib.hid hT
      have HTL := Lib.hid hTL
      have HP := Lib.hid hP
      have S1 := Lib.hid (fun (x : World) (u v : Value) (h : Ntes x x.heap.size u X) (k : Ntes x x.heap.size v X) => nsame_any X X u v x (by omega) (by omega) h k)
      have hd1 : decide (X = X) = true := by simp
      rw [hd1] at S1
      clear hX hXA hXB hT hTL hP hd1 c1e c2e c3e hone hti HC HM0 HQ0 RD P4 hm HAP q p0
      go_wp2_with fail
      refine (K1.out _ _ rd.out).mono ?_
      rintro e w5 ⟨v5, rfl, o5, q5⟩
      have ra := Lib.hid (ra.out.on q5)
      have rb := Lib.hid (rb.out.on q5)
      have rd := Lib.hid (rd.out.on q5)
      have rx := Lib.hid (OwnW.read o5 OX.out)
      have PP := Lib.hid (PP.out.trans q5)
      have own0 := noneN_made w5
      have qn := (Q.refl w5).alloc (.cells #[] 39)
      have r4 := rb.out.on qn
      clear K1 o5 q5
      go_wp2_with (at_builtin; first
        | (refine wpList_append_nte _ rfl _ _ 22 Try.underlying22 rfl w5.heap.size _ (.slice (some ⟨w5.heap.size, 0, none⟩) 0 0) [] B rfl rfl own0 r4 ?hb ?hl ?_; (case hb => simp); (case hl => simp; omega); intro v6 w6 o6 g6; have q6 : Q w5 w6 := Below.grown qn g6 qn.size (fun k hk => (World.ownsRow.lt own0 k hk).1); clear own0 r4 g6)
        | (have r6 := ra.out.on q6; refine wpList_append_nte _ rfl _ _ 22 Try.underlying22 rfl w5.heap.size _ _ B A rfl rfl o6 r6 ?hb ?hl ?_; (case hb => exact q6.size); (case hl => omega); intro v7 w7 o7 g7; have q7 : Q w5 w7 := Below.grown q6 g7 q6.size (fun k hk => (World.ownsRow.lt o6 k hk).1); clear r6 o6 g7 q6))
      rw [← HT.out] at o7
      obtain ⟨A7, c7, rfl⟩ := o7.form
      have own8 := noneN_made w7
      have qm := (Q.refl w7).alloc (.cells #[] 39)
      have rb8 := rb.out.on (q7.trans qm)
      clear qn rb
      refine (K6.out _ _ rb8).mono ?_
      rintro e w8 ⟨v8, rfl, o8, q8⟩
      have rB8 := OwnW.read o8 OB2.out
      obtain ⟨A8, c8, rfl⟩ := o8.form
      have own8 := own8.on q8
      have qm8 := qm.trans q8
      clear K6 rb8 o8 q8
      go_wp2_with (at_builtin; refine wpList_append_nte _ rfl _ _ 22 Try.underlying22 rfl w7.heap.size _ (.slice (some ⟨w7.heap.size, 0, none⟩) 0 0) [] XB rfl rfl own8 rB8 ?hb ?hl ?_; (case hb => exact qm8.size); (case hl => simp; omega); intro v9 w9 o9 g9; have q9 : Q w7 w9 := Below.grown qm8 g9 qm8.size (fun k hk => (World.ownsRow.lt own8 k hk).1); clear g9)
      have ra9 := ra.out.on (q7.trans q9)
      clear ra own8 rB8 qm8 qm
      refine (K5.out _ _ ra9).mono ?_
      rintro e w10 ⟨v10, rfl, o10, q10⟩
      have rA10 := OwnW.read o10 OA2.out
      obtain ⟨A10, c10, rfl⟩ := o10.form
      have o9 : OwnW w7.heap.size w9 v9 XB := o9
      have o9 := o9.on q10
      have q9 := q9.trans q10
      clear K5 ra9 o10 q10
      go_wp2_with (at_builtin; refine wpList_append_nte _ rfl _ _ 22 Try.underlying22 rfl w7.heap.size _ _ XB XA rfl rfl o9 rA10 ?hb ?hl ?_; (case hb => exact q9.size); (case hl => omega); intro v11 w11 o11 g11; have q11 : Q w7 w11 := Below.grown q9 g11 q9.size (fun k hk => (World.ownsRow.lt o9 k hk).1); clear g11)
      rw [← HP.out] at o11
      have O7 := Lib.hid o7
      have O11 := Lib.hid o11
      have t11 := OwnW.read (o7.on q11) OT.out
      clear o9 rA10 q9 o7 o11
      refine (K2.out _ _ t11).mono ?_
      rintro e w12 ⟨v12, rfl, o12, q12⟩
      have ry := OwnW.read o12 OX.out
      have rx12 := rx.out.on (q7.trans (q11.trans q12))
      clear K2 t11 o12
      go_wp2_with fail
      refine (S1.out _ _ _ ry rx12).mono ?_
      rintro e w13 ⟨rfl, d13⟩
      have q13 := d13.q
      have own7 := O7.out.on (q11.trans (q12.trans q13))
      have rd13 := rd.out.on (q7.trans (q11.trans (q12.trans q13)))
      have q513 := q7.trans (q11.trans (q12.trans q13))
      have o11 := O11.out.on (q12.trans q13)
      clear ry rx12 d13 rd
      have B513 := q513.size
      have HLT := Lib.hid (fun k hk => (World.ownsRow.lt own7 k hk).1)
      have HLT2 := Lib.hid (fun k hk => (World.ownsRow.lt O7.out k hk).2)
      go_wp2_with (at_builtin; refine wpList_append_nteG _ rfl _ _ 22 Try.underlying22 rfl w5.heap.size _ _ T L rfl rfl own7 rd13 ?hb ?hl ?_; (case hb => exact B513); (case hl => omega); intro v14 w14 o14 g14)
      have q14 : Q w5 w14 := Below.grown q513 g14 B513 HLT.out
      have oP := own_apart o11 g14 HLT2.out
      clear g14 HLT HLT2 B513
      rw [← HTL.out] at o14
      have r14 := OwnW.read o14 OTL.out
      have RP := Lib.hid (OwnW.read oP OP.out)
      have Q14 := Lib.hid q14
      clear own7 rd13 o11 q513 o14 oP q14 q11 q12 q13 q7 O7 O11
      refine (K3.out _ _ r14).mono ?_
      rintro e w15 ⟨v15, rfl, o15, q15⟩
      have ry := OwnW.read o15 OX.out
      have rx15 := rx.out.on (Q14.out.trans q15)
      clear K3 r14 o15
      go_wp2_with fail
      refine (S1.out _ _ _ ry rx15).mono ?_
      rintro e w16 ⟨rfl, d16⟩
      have q16 := d16.q
      have rp := RP.out.on (q15.trans q16)
      clear ry rx15 d16
      go_wp2_with fail
      refine (K4.out _ _ rp).mono ?_
      rintro e w17 ⟨v17, rfl, o17, q17⟩
      have ry := OwnW.read o17 OX.out
      have rx17 := rx.out.on (Q14.out.trans (q15.trans (q16.trans q17)))
      clear K4 rp o17
      go_wp2_with fail
      refine (S1.out _ _ _ ry rx17).mono ?_
      rintro e w18 ⟨rfl, d18⟩
      have q18 := d18.q
      clear ry rx17 d18
      go_wp2_with fail
      refine (awakeY_any _).mono ?_
      rintro e wz ⟨rfl, qz⟩
      go_wp2_with fail
      go_ret
      exact ⟨rfl, PP.out.trans (Q14.out.trans (q15.trans (q16.trans (q17.trans (q18.trans qz)))))⟩
set_option maxRecDepth 100000 in
theorem lifted (os : Os) (started : os.Started) (H : Type) (enc : TypeId × Value → H) :
    ReturnsInHanded {} Try.checked os 5 .any (Rows.changeTurnsSpec.pre6 enc Try.prog Try.f5 Rows.changeTurnsRow.domain false) (Rows.changeTurnsSpec.post enc Try.prog Try.f5 false true false false) := by
  refine returnsInHanded_of_change (C := Try.checked) own started (by kernel_rfl) Try.func5
    (ChangeSpec.witness6 (enc := enc) (C := Try.checked) false ⟨#[], #[.slice none 0 0, .slice none 0 0], []⟩ 8 (by kernel_rfl) (by kernel_rfl) (by kernel_rfl) (by kernel_rfl)) ?_
  intro W base args ds gs before hval0 hW hcnd _
  have hval : ∀ (j : Nat) t v, Try.f5.params[j]? = some t → args[j]? = some v → Value.okWide Try.prog W .any base t v := hval0
  have hW' := hW
  obtain ⟨p, q, hA0, hV, rfl, hfz, hnd⟩ := hW
  have hA : DataW.TrodAll enc Try.prog W 0 (fun _ => true) true Try.f5.params.toList args.toList ds p := hA0
  rw [Try.params5] at hA hval
  obtain ⟨v0, vs0, d0, ds0, p0, q0, hargs, rfl, rfl, h0, r0⟩ := trodAll_cons hA
  obtain ⟨v1, vs1, d1, ds1, p1, q1, rfl, rfl, rfl, h1, r1⟩ := trodAll_cons r0
  obtain ⟨rfl, rfl, rfl⟩ := trodAll_nil r1
  obtain rfl : args = #[v0, v1] := by cases args; simp_all
  obtain ⟨rfl, rfl⟩ := trodVars_none hV
  clear hA0 hval0
  simp only [List.append_nil] at hW'
  have hlt : ∀ x ∈ p0 ++ p1, x.block < W.heap.size := fun x hx => by simpa using hW'.lt x (by simpa using hx)
  obtain ⟨l0, t0, z0⟩ := open_ntes (hval 0 22 v0 rfl rfl) h0
  obtain ⟨l1, t1, z1⟩ := open_ntes (hval 1 22 v1 rfl rfl) h1
  refine (walk l0 v0 l1 v1 W t0 z0 t1 z1).mono fun e W' ⟨he, bel⟩ => ?_
  subst he
  refine ⟨_, rfl, _, _, _, [], _, [], hW', trodAll_mk1 (shut_bool Try.underlying4 _), (trodAll_cons_mk (Below.trod laid (by kernel_rfl) (of_decide_eq_true (by kernel_rfl)) h0 bel (fun x hx => hlt x (by simp [hx]))) (trodAll_cons_mk (Below.trod laid (by kernel_rfl) (of_decide_eq_true (by kernel_rfl)) h1 bel (fun x hx => hlt x (by simp [hx]))) trodAll_mk0)), rfl, Below.frame bel _, fun h => by cases h⟩

theorem over : Rows.changeTurnsRow.holds Try.pinned (OpenSpec.ofChange Rows.changeTurnsSpec) :=
  OpenClaim.holds_of_wide 5 Try.f5 rfl rfl rfl rfl rfl rfl rfl ⟨rfl, rfl, rfl, rfl, rfl⟩ rfl rfl rfl rfl rfl (by kernel_rfl) Try.func5 (by kernel_rfl)
    (of_decide_eq_true (by kernel_rfl)) (by unfold Func.isWrapper; first | (rw [if_pos (by decide +kernel)]; kernel_rfl) | (rw [if_neg (by decide +kernel)]; exact ⟨rfl, rfl⟩))
    (fun os started H enc _ => lifted os started H enc)

theorem proved : Rows.ChangeTurnsSaid := over
#print axioms proved
end Go.Proofs.Ythlbpjopkaninaa.changeTurns
