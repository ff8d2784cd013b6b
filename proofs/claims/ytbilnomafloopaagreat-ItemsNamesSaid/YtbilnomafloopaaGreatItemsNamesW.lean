/-
  The walk of ItemsNames.
-/
import Derived.Test.YtbilnomafloopaaGreatNn
namespace Go.Proofs.YtbilnomafloopaaGreat.itemsNames
set_option maxRecDepth 100000
open Go.ChangeShapes Go.WideShapes Go.ChangeAt Go.RowKit
set_option linter.unusedVariables false
set_option linter.unusedSimpArgs false

def cntE (l : List Ent) : Nat := (l.map fun e => e.L.length).sum
def cntU (l : List Upl) : Nat := (l.map fun u => 1 + u.L.length).sum
def cntB (b : Bkt) : Nat := cntE b.L + cntU b.U
theorem sum_next {α : Type} (f : α → Nat) (l : List α) (i : Nat) (h : i < l.length) : ((l.take (i + 1)).map f).sum = ((l.take i).map f).sum + f l[i] := by
  rw [List.take_succ_eq_append_getElem h, List.map_append, List.sum_append]; simp
theorem flat_sum {α β : Type} (f : α → List β) (g : α → Nat) (l : List α) (h : ∀ x ∈ l, (f x).length = g x) : (l.flatMap f).length = (l.map g).sum := by
  induction l with
  | nil => rfl
  | cons x r ih => rw [List.flatMap_cons, List.length_append, List.map_cons, List.sum_cons, h x (by simp), ih fun y hy => h y (List.mem_cons_of_mem _ hy)]
theorem bktI_count (b : Bkt) : (bktI b).length = 1 + cntB b := by
  unfold bktI cntB cntE cntU
  rw [List.length_cons, List.length_append, flat_sum (entI b.name) (fun e => e.L.length) b.L (fun e _ => entI_len _ e), flat_sum (uplI b.name) (fun u => 1 + u.L.length) b.U (fun u _ => by unfold uplI; rw [List.length_cons, List.length_map]; omega)]
  omega
theorem sum_one {α : Type} (g : α → Nat) (l : List α) : (l.map fun x => 1 + g x).sum = l.length + (l.map g).sum := by
  induction l with
  | nil => rfl
  | cons x r ih => simp only [List.map_cons, List.sum_cons, List.length_cons, ih]; omega
theorem depI_count (d : Dep) : (depI d).length = 1 + d.L.length + (d.L.map cntB).sum := by
  unfold depI
  rw [List.length_cons, flat_sum bktI (fun b => 1 + cntB b) d.L (fun b _ => bktI_count b), sum_one]
  omega
theorem sum_part {α : Type} (f : α → Nat) (l : List α) (i : Nat) : ((l.take i).map f).sum ≤ (l.map f).sum := by
  have h : l.map f = (l.take i).map f ++ (l.drop i).map f := by rw [← List.map_append, List.take_append_drop]
  rw [h, List.sum_append]; omega
set_option maxHeartbeats 8000000 in
set_option maxRecDepth 100000 in
theorem walk (d : Dep) (dv : Value) (w : World) (t0 : Bks w w.heap.size dv d.L) (z0 : d.L.length ≤ maxLen) :
    Calls Tryz.prog 8 #[.agg #[.int .i64 d.now, dv]] w fun e w' => e = .returned (.bool true) ∧ Q w w' := by
  obtain ⟨Ad, cd, rfl⟩ := t0.form
  obtain ⟨W0, hW0⟩ : ∃ z, z = w.alloc (.cells #[.int .i64 d.now, .slice Ad d.L.length cd] 24) := ⟨_, rfl⟩
  have q0 : Q w W0 := by rw [hW0]; exact (Q.refl w).alloc _
  have n0 : Bx W0 w.heap.size 24 #[.int .i64 d.now, .slice Ad d.L.length cd] := by rw [hW0]; exact Bx.new w _ _
  have F1 := Lib.hid (fewD_any d _ W0 z0 (t0.on q0))
  obtain ⟨R1, h1⟩ := chk_ex (okD (fewD d))
  have O1 := Lib.hid (fun (x : World) (v : Value) (h : Bks x x.heap.size v (fewD d).L) => of_all (fewD d) v x R1 h1 (fewD_sm d) h)
  have HK1 := Lib.hid h1
  obtain ⟨X, hX⟩ : ∃ X, X = fewD d := ⟨_, rfl⟩
  rw [← hX] at F1 O1 HK1
  have HW0 := Lib.hid hW0.symm
  have hs0 : w.heap.size < W0.heap.size := n0.lt
  have c0 := n0.cell 0
  have c1 := n0.cell 1
  simp only [List.getElem?_toArray, List.getElem?_cons_zero, List.getElem?_cons_succ] at c0 c1
  have HS0 := Lib.hid hs0
  have HQ0 := Lib.hid q0
  have HN0 := Lib.hid n0
  clear hX t0 z0 n0 hW0 q0 h1 hs0
  go_enter Tryz.func8, Tryz.ntmps8
  go_upto_region 1 with fail
  rw [HW0.out]
  go_wp2_with fail
  refine (F1.out).mono ?_
  rintro e w1 ⟨A1, k1, rfl, o1, q1⟩
  have n1 := HN0.out.on q1
  have f0 := n1.frozen 0
  have f1 := n1.frozen 1
  have c0 := n1.cell 0
  have c1 := n1.cell 1
  simp only [List.getElem?_toArray, List.getElem?_cons_zero, List.getElem?_cons_succ] at c0 c1
  have hsz := q1.size
  clear F1
  go_upto_region 2 with fail
  obtain ⟨wS, hwS⟩ : ∃ z, z = (w1.setCell ⟨w.heap.size, 0, none⟩ (.int .i64 X.now)).setCell ⟨w.heap.size, 1, none⟩ (.slice A1 X.L.length k1) := ⟨_, rfl⟩
  rw [← hwS]
  have nS : Bx wS w.heap.size 24 #[.int .i64 X.now, .slice A1 X.L.length k1] := by rw [hwS]; exact (n1.set 0 _).set 1 _
  have oS : RowD W0.heap.size wS (.slice A1 X.L.length k1) X.L := by rw [hwS]; exact (o1.set HS0.out).set HS0.out
  have qS : Q w wS := by rw [hwS]; exact Q.set (Q.set (HQ0.out.trans q1) (Nat.le_refl _) _) (Nat.le_refl _) _
  have hzS : W0.heap.size ≤ wS.heap.size := by rw [hwS]; simpa using hsz
  have rS := (oS.own hzS).read
  have RS := Lib.hid rS
  have NS := Lib.hid nS
  have QS := Lib.hid qS
  have c0 := nS.cell 0
  have c1 := nS.cell 1
  simp only [List.getElem?_toArray, List.getElem?_cons_zero, List.getElem?_cons_succ] at c0 c1
  clear n1 f0 f1 o1 q1 hsz hwS nS oS qS hzS
  go_wp2_with fail
  refine (O1.out _ _ rS).mono ?_
  rintro e w2 ⟨v2, rfl, q2, -, y2⟩
  have p2 := QS.out.trans q2
  clear O1 rS c0 c1
  cases R1 with
  | false =>
    clear y2
    go_wp2_with fail
    refine (awakeI_any _).mono ?_
    rintro e wz ⟨rfl, qz⟩
    go_wp2_with fail
    go_ret
    exact ⟨rfl, p2.trans qz⟩
  | true =>
  have hd : okD X := by
    rcases HK1.out with ⟨-, h⟩ | ⟨h, -⟩
    · exact h
    · cases h
  obtain ⟨L, ⟨hp, hL, okLZ, lL⟩, oL⟩ := y2 rfl
  have rL := OwnI.read oL okLZ
  obtain ⟨AL, cL, rfl⟩ := rL.form
  have RL := Lib.hid rL
  have HL := Lib.hid hL
  have CNT : Hid (L.length = 1 + X.L.length + (X.L.map cntB).sum) := Lib.hid (by rw [hp.length_eq, depI_count])
  have LL := Lib.hid lL
  have HSM : Hid (X.L.length ≤ 6) := Lib.hid hd.2.1
  have HTY : Hid (∀ b ∈ X.L, b.L.length ≤ 60 ∧ b.U.length ≤ 60) := Lib.hid fun b hb => ⟨(okB_tiny (okD_all hd b hb).1).2.2.2.2.1, (okB_tiny (okD_all hd b hb).1).2.2.2.2.2.1⟩
  have HBX : Hid (∀ z, Q w2 z → z.cell? ⟨w.heap.size, 0, none⟩ = some (.int .i64 X.now) ∧ z.cell? ⟨w.heap.size, 1, none⟩ = some (.slice A1 X.L.length k1)) := Lib.hid fun z q => ⟨((NS.out.on q2).on q).cell 0, ((NS.out.on q2).on q).cell 1⟩
  have RS2 := Lib.hid (RS.out.on q2)
  obtain ⟨c0, c1⟩ := HBX.out _ (Q.refl w2)
  clear y2 hp hL okLZ lL oL rL hd HK1 RS q2
  have hlx := HSM.out
  go_wp2_with fail
  go_loopw [5, 6] (fun T I wr => ∃ i t : Nat, i ≤ X.L.length ∧ I = .int .i64 i ∧ T = .int .i64 t ∧ t ≤ 13201 ∧ Hid (t = 1 + X.L.length + ((X.L.take i).map cntB).sum) ∧ Q w2 wr) (fun _ I _ => X.L.length - (intOf I).toNat)
  case atStart => exact ⟨0, 1 + X.L.length, Nat.zero_le _, rfl, by go_num, by omega, Lib.hid (by simp), Q.refl _⟩
  case round =>
    obtain ⟨i, t, hil, rfl, rfl, htb, HT, q⟩ := hrel
    clear c0 c1
    obtain ⟨c0, c1⟩ := HBX.out _ q
    by_cases hlt : i < X.L.length
    · obtain ⟨a, c', lv, uv, hAa, ha, hok, hbv, hat⟩ := RS2.out.pick i hlt
      injection hAa with hA1 hA2 hA3
      subst hA1 hA3
      have NX : Hid (1 + X.L.length + ((X.L.take (i + 1)).map cntB).sum = t + (cntE X.L[i].L + cntU X.L[i].U)) := Lib.hid (by rw [sum_next _ _ _ hlt, HT.out]; unfold cntB; omega)
      have BND : Hid (t + (cntE X.L[i].L + cntU X.L[i].U) ≤ 13201) := Lib.hid (by have h1 := sum_part cntB X.L (i + 1); have h2 := CNT.out; have h3 := LL.out; have h4 := NX.out; omega)
      obtain ⟨tl, tu⟩ := HTY.out _ (List.getElem_mem hlt)
      obtain ⟨x, hx⟩ : ∃ x, x = X.L[i] := ⟨_, rfl⟩
      rw [← hx] at hok hbv hat NX BND tl tu
      obtain ⟨hv1, hv2⟩ := id hbv
      obtain ⟨A3, c3, e3, -⟩ := id hv1
      obtain ⟨A4, c4, e4, -⟩ := id hv2
      subst e3 e4
      have H1 := Lib.hid hv1
      have H2 := Lib.hid hv2
      have HAT : Hid (∀ z, Q w2 z → z.cell? ⟨(a.add (i * 5)).block, (a.add (i * 5)).off + 2, none⟩ = some (.slice A3 x.L.length c3) ∧ z.cell? ⟨(a.add (i * 5)).block, (a.add (i * 5)).off + 3, none⟩ = some (.slice A4 x.U.length c4)) := Lib.hid fun z qz => ⟨(hat z qz).2.2.1, (hat z qz).2.2.2.1⟩
      have hilt : (i : Int) < (X.L.length : Int) := by omega
      obtain ⟨d2, d3⟩ := HAT.out _ q
      clear hx hok hbv hat hv1 hv2
      go_wp2_with fail
      go_loopw [5, 7] (fun T I wy => ∃ k s : Nat, k ≤ x.L.length ∧ I = .int .i64 k ∧ T = .int .i64 s ∧ s ≤ 13201 ∧ Hid (s = t + ((x.L.take k).map fun e => e.L.length).sum) ∧ Q w2 wy) (fun _ I _ => x.L.length - (intOf I).toNat)
      case atStart => exact ⟨0, t, Nat.zero_le _, rfl, rfl, htb, Lib.hid (by simp), q⟩
      case round =>
        obtain ⟨k, s, hkl, rfl, rfl, hsb, HS, qy⟩ := hrel
        clear c0 c1 d2 d3
        obtain ⟨c0, c1⟩ := HBX.out _ qy
        obtain ⟨d2, d3⟩ := HAT.out _ qy
        by_cases hkt : k < x.L.length
        · obtain ⟨a5, c5', hv, ha5, A6, c6, -, hat5⟩ := H1.out.pick k hkt
          injection hv with e1 e2 e3
          subst e1 e3
          obtain ⟨-, d5⟩ := hat5 _ qy
          have NS2 : Hid (s + x.L[k].L.length = t + ((x.L.take (k + 1)).map fun e => e.L.length).sum) := Lib.hid (by rw [sum_next _ _ _ hkt, HS.out]; omega)
          have hb2 : s + x.L[k].L.length ≤ 13201 := by
            have h1 := sum_part (fun e : Ent => e.L.length) x.L (k + 1)
            have h2 := BND.out
            have h3 := NS2.out
            unfold cntE at h2
            omega
          have hklt : (k : Int) < (x.L.length : Int) := by omega
          obtain ⟨m, hm⟩ : ∃ m, m = x.L[k].L.length := ⟨_, rfl⟩
          rw [← hm] at d5 NS2 hb2
          clear hm hat5 e2
          go_wp2_with fail
          go_roundw
          case rel => exact ⟨k + 1, s + m, by omega, by go_num, by go_num, by omega, NS2, qy⟩
          case measure => simp [intOf]; omega
        · have h2 : ¬ (k : Int) < (x.L.length : Int) := by omega
          have HS2 : Hid (s = t + cntE x.L) := Lib.hid (by rw [HS.out, List.take_of_length_le (by omega)]; rfl)
          clear HS
          go_wp2_with fail
          go_loopw [5, 8] (fun T I wz => ∃ j r : Nat, j ≤ x.U.length ∧ I = .int .i64 j ∧ T = .int .i64 r ∧ r ≤ 13201 ∧ Hid (r = s + ((x.U.take j).map fun u => 1 + u.L.length).sum) ∧ Q w2 wz) (fun _ I _ => x.U.length - (intOf I).toNat)
          case atStart => exact ⟨0, s, Nat.zero_le _, rfl, rfl, hsb, Lib.hid (by simp), qy⟩
          case round =>
            obtain ⟨j, r, hjl, rfl, rfl, hrb, HR, qz⟩ := hrel
            clear c0 c1 d2 d3
            obtain ⟨c0, c1⟩ := HBX.out _ qz
            obtain ⟨d2, d3⟩ := HAT.out _ qz
            by_cases hjt : j < x.U.length
            · obtain ⟨a7, c7', hv, ha7, A8, c8, -, hat7⟩ := H2.out.pick j hjt
              injection hv with e1 e2 e3
              subst e1 e3
              obtain ⟨-, -, d7⟩ := hat7 _ qz
              have NS3 : Hid (r + (1 + x.U[j].L.length) = s + ((x.U.take (j + 1)).map fun u => 1 + u.L.length).sum) := Lib.hid (by rw [sum_next _ _ _ hjt, HR.out]; omega)
              have hb3 : r + (1 + x.U[j].L.length) ≤ 13201 := by
                have h1 := sum_part (fun u : Upl => 1 + u.L.length) x.U (j + 1)
                have h2 := BND.out
                have h3 := NS3.out
                have h4 := HS2.out
                unfold cntU at h2
                omega
              have hjlt : (j : Int) < (x.U.length : Int) := by omega
              obtain ⟨m, hm⟩ : ∃ m, m = x.U[j].L.length := ⟨_, rfl⟩
              rw [← hm] at d7 NS3 hb3
              clear hm hat7 e2
              go_wp2_with fail
              go_roundw
              case rel => exact ⟨j + 1, r + (1 + m), by omega, by go_num, by go_num, by omega, NS3, qz⟩
              case measure => simp [intOf]; omega
            · have h3 : ¬ (j : Int) < (x.U.length : Int) := by omega
              have HN : Hid (r = 1 + X.L.length + ((X.L.take (i + 1)).map cntB).sum) := Lib.hid (by rw [NX.out, HR.out, HS2.out, List.take_of_length_le (by omega)]; unfold cntU; omega)
              clear HR HS2
              go_wp2_with fail
              go_roundw
              case rel => exact ⟨i + 1, by omega, by omega, r, rfl, hrb, by rw [← List.map_take]; exact HN⟩
              case measure => simp [intOf]; omega
    · have h2 : ¬ (i : Int) < (X.L.length : Int) := by omega
      have HE : Hid (t = L.length) := Lib.hid (by rw [HT.out, CNT.out, List.take_of_length_le (by omega)])
      obtain ⟨B5, k5, e5, -, -, -, h5⟩ := RL.out
      injection e5 with e51 e52 e53
      subst e51
      have H5 := Lib.hid h5
      clear h5 e52 e53 HT
      go_wp2_with fail
      go_loopw [9] (fun I wy => ∃ k : Nat, 1 ≤ k ∧ (k ≤ L.length ∨ k = 1) ∧ I = .int .i64 k ∧ Q w2 wy) (fun I _ => L.length - (intOf I).toNat)
      case atStart => exact ⟨1, Nat.le_refl _, .inr rfl, rfl, q⟩
      case round =>
        obtain ⟨k, hk1, hkl, rfl, qy⟩ := hrel
        by_cases hkt : k < L.length
        · obtain ⟨p5, hp5, hb5, hat5⟩ := H5.out k hkt
          subst hp5
          obtain ⟨j, hj⟩ : ∃ j, k = j + 1 := ⟨k - 1, by omega⟩
          have hjt : j < L.length := by omega
          obtain ⟨p6, hp6, hb6, hat6⟩ := H5.out j hjt
          injection hp6 with hp6
          subst hp6
          obtain ⟨s0, -⟩ := hat5.keep (by rw [add_block]; exact hb5) fun _ hp => qy.cell hp
          obtain ⟨u0, -⟩ := hat6.keep (by rw [add_block]; exact hb6) fun _ hp => qy.cell hp
          have hasc : ltBZ L[j].n L[k].n = true := (List.pairwise_iff_getElem.1 HL.out) j k hjt hkt (by omega)
          obtain ⟨xn, hx⟩ : ∃ z, z = L[j].n := ⟨_, rfl⟩
          obtain ⟨yn, hy⟩ : ∃ z, z = L[k].n := ⟨_, rfl⟩
          rw [← hx] at u0 hasc
          rw [← hy] at s0 hasc
          have hge : (!(Op.bytesLess xn.toList yn.toList)) = false := by
            have : Op.bytesLess xn.toList yn.toList = true := hasc
            rw [this]; rfl
          have hj1 : (k : Int) - 1 = (j : Int) := by omega
          have hklt : (k : Int) < (L.length : Int) := by omega
          have hjlt : (j : Int) < (L.length : Int) := by omega
          have hll := LL.out
          have hwj : IntKind.i64.wrap (j : Int) = (j : Int) := by simp [IntKind.wrap, IntKind.bits, IntKind.signed]; omega
          clear hat5 hat6 hx hy hasc hj hkl hk1
          go_wp2_with fail
          refine wp_region_held_drew (S := (fun w' => w'.cell? (p5.add (k * 2)) = some (.string yn) ∧ w'.cell? (p5.add (j * 2)) = some (.string xn))) (by kernel_rfl) ⟨s0, u0⟩ (fun hHeld => ?_)
          refine tkV 0 ?_
          refine tkV 1 ?_
          refine tkV 2 ?_
          refine tkV 3 ?_
          refine tkV 4 ?_
          refine tkV 5 ?_
          refine tkV 6 ?_
          refine tkV 7 ?_
          refine tkV 8 ?_
          refine tkV 9 ?_
          refine tkV 10 ?_
          refine tkB 11 (.bool false) ?_
          refine wpAnyH_done (by kernel_rfl) ?_ _
          go_wp2_with fail
          go_roundw
          case rel => exact ⟨k + 1, by omega, .inl (by omega), by go_num, qy.drew⟩
          case measure => simp [intOf]; omega
        · have h3 : ¬ (k : Int) < (L.length : Int) := by omega
          have he : ((L.length : Int) == (t : Int)) = true := by rw [HE.out]; simp
          clear hkt hk1 hkl
          go_wp2_with fail
          refine (awakeI_any _).mono ?_
          rintro e wz ⟨rfl, qz⟩
          go_wp2_with fail
          go_ret
          exact ⟨rfl, (p2.trans qy).trans qz⟩
end Go.Proofs.YtbilnomafloopaaGreat.itemsNames
