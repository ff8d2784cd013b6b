/-
  Contracts of both Find.
-/
import Derived.Test.YtlahccmlnbdekaaUFind
namespace Go.Proofs.Ytlahccmlnbdekaa
open Go.ChangeShapes Go.WideShapes Go.ChangeAt Go.RowKit
set_option linter.unusedVariables false
set_option linter.unusedSimpArgs false
set_option maxRecDepth 100000

/-- No upload. -/
def noU : Upl := ⟨0, ⟨#[]⟩, []⟩
/-- What Find comes to. -/
inductive FindC (l : List Upl) (id : Nat) : Upl → Nat → Prop
  | arg : ¬ okUps l → FindC l id noU 1
  | none : okUps l → (∀ j (hl : j < l.length), l[j].id ≠ id) → FindC l id noU 4
  | yes (i : Nat) (h : i < l.length) : okUps l → l[i].id = id → (∀ j (hj : j < i) (hl : j < l.length), l[j].id ≠ id) → FindC l id l[i] 0
theorem findC_ex (l : List Upl) (id : Nat) : ∃ r e, FindC l id r e := by
  by_cases h : okUps l
  · rcases where_id l id with ⟨-, k⟩ | ⟨i, hi, -, k, m⟩
    · exact ⟨_, _, .none h k⟩
    · exact ⟨_, _, .yes i hi h k m⟩
  · exact ⟨_, _, .arg h⟩
set_option maxHeartbeats 4000000 in
theorem findU_any (l : List Upl) (v : Value) (id : Nat) (w : World) (r : Upl) (e : Nat) (h : FindC l id r e) (hs : smL l) (ht : Upls w w.heap.size v l) :
    Calls Try.prog 16 #[v, .int .u64 (id : Nat)] w fun x w' => ∃ u, x = .returned (.tuple #[upl r u, .int .i64 (e : Nat)]) ∧ OwnP w.heap.size w' u r.L ∧ Q w w' := by
  have HT := Lib.hid ht
  have hl := hs.1
  have q0 := (Q.refl w).alloc (.cells #[.int .u64 0, .string ⟨#[]⟩, .slice none 0 0] 40)
  have bx0 := Bx.new w 40 #[.int .u64 0, .string ⟨#[]⟩, .slice none 0 0]
  have CK : ∀ R, Chk (okUps l) R → Calls Try.prog 19 #[v] (w.alloc (.cells #[.int .u64 0, .string ⟨#[]⟩, .slice none 0 0] 40)) fun e w' => e = .returned (.int .i64 (chkE R)) ∧ Q (w.alloc (.cells #[.int .u64 0, .string ⟨#[]⟩, .slice none 0 0] 40)) w' := fun R hR => checkU_any l v _ R hR hs (ht.on q0)
  have PL : Hid (∀ d, Q w d → Calls Try.prog 32 #[v, .int .u64 (id : Nat)] d fun e w' => e = .returned (.int .i64 (idxU l id)) ∧ Q d w') := Lib.hid fun d q => placeU_any l v id d hl (ht.on q)
  obtain ⟨A, c, rfl⟩ := ht.form
  cases h with
  | arg hno =>
    have C := Lib.hid (CK false (.inr ⟨rfl, hno⟩))
    clear CK ht hs hno PL
    go_enter Try.func16, Try.ntmps16
    go_wp2_with fail
    refine (C.out).mono ?_
    rintro e w1 ⟨rfl, q1⟩
    have bx := bx0.on q1
    have r0 := bx.cell 0
    have r1 := bx.cell 1
    have r2 := bx.cell 2
    have h0 := bx.frozen 0
    have h1 := bx.frozen 1
    have h2 := bx.frozen 2
    simp only [List.getElem?_toArray, List.getElem?_cons_zero, List.getElem?_cons_succ] at r0 r1 r2
    go_wp2
    (try simp only [Exit.inBlock, Exit.then])
    obtain ⟨wC, hwC⟩ : ∃ wC, wC = ((w1.setCell ⟨w.heap.size, 0, none⟩ (.int .u64 0)).setCell ⟨w.heap.size, 1, none⟩ (.string ⟨#[]⟩)).setCell ⟨w.heap.size, 2, none⟩ (.slice none 0 0) := ⟨_, rfl⟩
    have bD : Bx wC w.heap.size 40 #[.int .u64 0, .string ⟨#[]⟩, .slice none 0 0] := by rw [hwC]; exact ((bx.set 0 _).set 1 _).set 2 _
    have qC : Q w wC := by rw [hwC]; exact Q.set (Q.set (Q.set (q0.trans q1) (Nat.le_refl _) _) (Nat.le_refl _) _) (Nat.le_refl _) _
    rw [← hwC]
    have v0 := bD.cell 0
    have v1 := bD.cell 1
    have v2 := bD.cell 2
    simp only [List.getElem?_toArray, List.getElem?_cons_zero, List.getElem?_cons_succ] at v0 v1 v2
    refine bodyPost_ret (v := .tuple #[.agg #[.int .u64 0, .string ⟨#[]⟩, .slice none 0 0], .int .i64 1]) ?_ rfl ⟨_, rfl, OwnP.nil _ _, qC⟩
    rw [results_cell_tmp rfl]
    go_simp
  | none hok hno =>
    have C := Lib.hid (CK true (.inl ⟨rfl, hok⟩))
    have e1 := idxU_none hno
    rw [e1] at PL
    clear CK ht hs hok hno e1
    go_enter Try.func16, Try.ntmps16
    go_wp2_with fail
    refine (C.out).mono ?_
    rintro e w1 ⟨rfl, q1⟩
    go_wp2_with fail
    refine (PL.out _ (q0.trans q1)).mono ?_
    rintro e w2 ⟨rfl, q2⟩
    have bx := bx0.on (q1.trans q2)
    have r0 := bx.cell 0
    have r1 := bx.cell 1
    have r2 := bx.cell 2
    have h0 := bx.frozen 0
    have h1 := bx.frozen 1
    have h2 := bx.frozen 2
    simp only [List.getElem?_toArray, List.getElem?_cons_zero, List.getElem?_cons_succ] at r0 r1 r2
    go_wp2
    (try simp only [Exit.inBlock, Exit.then])
    obtain ⟨wC, hwC⟩ : ∃ wC, wC = ((w2.setCell ⟨w.heap.size, 0, none⟩ (.int .u64 0)).setCell ⟨w.heap.size, 1, none⟩ (.string ⟨#[]⟩)).setCell ⟨w.heap.size, 2, none⟩ (.slice none 0 0) := ⟨_, rfl⟩
    have bD : Bx wC w.heap.size 40 #[.int .u64 0, .string ⟨#[]⟩, .slice none 0 0] := by rw [hwC]; exact ((bx.set 0 _).set 1 _).set 2 _
    have qC : Q w wC := by rw [hwC]; exact Q.set (Q.set (Q.set (q0.trans (q1.trans q2)) (Nat.le_refl _) _) (Nat.le_refl _) _) (Nat.le_refl _) _
    rw [← hwC]
    have v0 := bD.cell 0
    have v1 := bD.cell 1
    have v2 := bD.cell 2
    simp only [List.getElem?_toArray, List.getElem?_cons_zero, List.getElem?_cons_succ] at v0 v1 v2
    refine bodyPost_ret (v := .tuple #[.agg #[.int .u64 0, .string ⟨#[]⟩, .slice none 0 0], .int .i64 4]) ?_ rfl ⟨_, rfl, OwnP.nil _ _, qC⟩
    rw [results_cell_tmp rfl]
    go_simp
  | yes i hlt hok hid hlo =>
    have C := Lib.hid (CK true (.inl ⟨rfl, hok⟩))
    have e1 := idxU_hit hlt hid hlo
    rw [e1] at PL
    have hx2 := (hs.2 _ (List.getElem_mem hlt)).2.1
    obtain ⟨a, c', hv, ha, A2, c2, hps, hat⟩ := HT.out.pick i hlt
    injection hv with e1 e2 e3
    subst e1 e3
    obtain ⟨x, hx⟩ : ∃ x, x = l[i] := ⟨_, rfl⟩
    rw [← hx] at hps hat hx2 ⊢
    have AP : Hid (∀ d, Q w d → Calls Try.prog 38 #[upl x (.slice A2 x.L.length c2)] d fun e w' => ∃ v', e = .returned (upl x v') ∧ OwnP d.heap.size w' v' x.L ∧ Q d w') := Lib.hid fun d q => apartU_any x _ d (by omega) (hps.on q)
    rw [upl] at AP
    have HAT := Lib.hid hat
    have hilt : (i : Int) < (l.length : Int) := by omega
    have hi0 : ¬ (i : Int) < 0 := by omega
    clear CK ht hs hok hid hlo e2 hx hps hat hx2
    go_enter Try.func16, Try.ntmps16
    go_wp2_with fail
    refine (C.out).mono ?_
    rintro e w1 ⟨rfl, q1⟩
    go_wp2_with fail
    refine (PL.out _ (q0.trans q1)).mono ?_
    rintro e w2 ⟨rfl, q2⟩
    obtain ⟨d0, d1, d2⟩ := HAT.out _ (q0.trans (q1.trans q2))
    go_wp2_with fail
    refine (AP.out _ (q0.trans (q1.trans q2))).mono ?_
    rintro e w3 ⟨v3, rfl, o3, q3⟩
    obtain ⟨A3, n3, c3, rfl⟩ : ∃ A n c, v3 = .slice A n c := by obtain ⟨A, c, e⟩ := o3.form; exact ⟨A, _, c, e⟩
    have bx := bx0.on (q1.trans (q2.trans q3))
    have s2 : w.heap.size < w2.heap.size := by have := (q1.trans q2).size; rw [World.size_alloc] at this; omega
    have o4 := Lib.hid (OwnP.low o3 s2)
    clear o3 HAT
    rw [upl]
    have r0 := bx.cell 0
    have r1 := bx.cell 1
    have r2 := bx.cell 2
    have h0 := bx.frozen 0
    have h1 := bx.frozen 1
    have h2 := bx.frozen 2
    simp only [List.getElem?_toArray, List.getElem?_cons_zero, List.getElem?_cons_succ] at r0 r1 r2
    go_wp2
    (try simp only [Exit.inBlock, Exit.then])
    obtain ⟨wC, hwC⟩ : ∃ wC, wC = ((w3.setCell ⟨w.heap.size, 0, none⟩ (.int .u64 (x.id : Nat))).setCell ⟨w.heap.size, 1, none⟩ (.string x.key)).setCell ⟨w.heap.size, 2, none⟩ (.slice A3 n3 c3) := ⟨_, rfl⟩
    have bD : Bx wC w.heap.size 40 #[.int .u64 (x.id : Nat), .string x.key, .slice A3 n3 c3] := by rw [hwC]; exact ((bx.set 0 _).set 1 _).set 2 _
    have qC : Q w wC := by rw [hwC]; exact Q.set (Q.set (Q.set (q0.trans (q1.trans (q2.trans q3))) (Nat.le_refl _) _) (Nat.le_refl _) _) (Nat.le_refl _) _
    have oC : OwnP w.heap.size wC (.slice A3 n3 c3) x.L := by rw [hwC]; exact OwnP.low (base := w.heap.size + 1) (ownsRow_set (ownsRow_set (ownsRow_set o4.out (by omega)) (by omega)) (by omega)) (by omega)
    rw [← hwC]
    have v0 := bD.cell 0
    have v1 := bD.cell 1
    have v2 := bD.cell 2
    simp only [List.getElem?_toArray, List.getElem?_cons_zero, List.getElem?_cons_succ] at v0 v1 v2
    refine bodyPost_ret (v := .tuple #[.agg #[.int .u64 (x.id : Nat), .string x.key, .slice A3 n3 c3], .int .i64 0]) ?_ rfl ⟨.slice A3 n3 c3, rfl, oC, qC⟩
    rw [results_cell_tmp rfl]
    go_simp

set_option maxHeartbeats 4000000 in
theorem rfindU_any (l : List Upl) (v : Value) (id : Nat) (w : World) (r : Upl) (e : Nat) (h : FindC l id r e) (hs : smL l) (ht : Upls w w.heap.size v l) :
    Calls Try.prog 17 #[v, .int .u64 (id : Nat)] w fun x w' => ∃ u, x = .returned (.tuple #[upl r u, .int .i64 (e : Nat)]) ∧ Prts w w.heap.size u r.L ∧ Q w w' := by
  have HT := Lib.hid ht
  have hl := hs.1
  have q0 := (Q.refl w).alloc (.cells #[.int .u64 0, .string ⟨#[]⟩, .slice none 0 0] 40)
  have bx0 := Bx.new w 40 #[.int .u64 0, .string ⟨#[]⟩, .slice none 0 0]
  have CK : ∀ R, Chk (okUps l) R → Calls Try.prog 20 #[v] (w.alloc (.cells #[.int .u64 0, .string ⟨#[]⟩, .slice none 0 0] 40)) fun e w' => e = .returned (.bool R) ∧ Q (w.alloc (.cells #[.int .u64 0, .string ⟨#[]⟩, .slice none 0 0] 40)) w' := fun R hR => rmayL_any l v _ R hR hs (ht.on q0)
  obtain ⟨A, c, rfl⟩ := ht.form
  by_cases hok : okUps l
  · have C := Lib.hid (CK true (.inl ⟨rfl, hok⟩))
    have HH : Hid (FindC l id r e) := Lib.hid h
    have HO := Lib.hid hok
    clear CK ht hs h hok
    go_enter Try.func17, Try.ntmps17
    go_wp2_with fail
    refine (C.out).mono ?_
    rintro e w1 ⟨rfl, q1⟩
    have bx1 := bx0.on q1
    have q2 := q0.trans q1
    clear q1 q0 bx0
    go_wp2_with fail
    go_loopw [6] (fun I wr => ∃ i : Nat, i ≤ l.length ∧ I = .int .i64 i ∧ Q w wr ∧ Bx wr w.heap.size 40 #[.int .u64 0, .string ⟨#[]⟩, .slice none 0 0] ∧ Hid (∀ j (hj : j < i) (hl : j < l.length), l[j].id ≠ id)) (fun I _ => l.length - (intOf I).toNat)
    case atStart => exact ⟨0, Nat.zero_le _, rfl, q2, bx1, Lib.hid (fun j h => by omega)⟩
    case round =>
      obtain ⟨i, hil, rfl, q, bx, HK⟩ := hrel
      clear q2 bx1
      by_cases hlt : i < l.length
      · obtain ⟨a, c', hv, ha, A2, c2, hps, hat⟩ := HT.out.pick i hlt
        injection hv with e1 e2 e3
        subst e1 e3
        obtain ⟨d0, d1, d2⟩ := hat _ q
        have hilt : (i : Int) < (l.length : Int) := by omega
        by_cases hid : l[i].id = id
        · have HV : Hid (r = l[i] ∧ e = 0) := Lib.hid (by
            have := HH.out
            cases this with
            | arg h => exact absurd HO.out h
            | none _ h => exact absurd hid (h i hlt)
            | yes j hj _ h1 h2 =>
              have : j = i := by
                rcases Nat.lt_trichotomy j i with k | k | k
                · exact absurd h1 (HK.out j k hj)
                · exact k
                · exact absurd hid (h2 i k hlt)
              subst this; exact ⟨rfl, rfl⟩)
          obtain ⟨x, hx⟩ : ∃ x, x = l[i] := ⟨_, rfl⟩
          rw [← hx] at d0 d1 d2 hps HV hid
          have HX := Lib.hid hid
          rw [hid] at d0
          have HPS := Lib.hid hps
          clear hx hat hps hid e2
          have r0 := bx.cell 0
          have r1 := bx.cell 1
          have r2 := bx.cell 2
          have h0 := bx.frozen 0
          have h1 := bx.frozen 1
          have h2 := bx.frozen 2
          simp only [List.getElem?_toArray, List.getElem?_cons_zero, List.getElem?_cons_succ] at r0 r1 r2
          go_wp2
          (try simp only [Exit.inBlock, Exit.then])
          obtain ⟨wC, hwC⟩ : ∃ wC, wC = ((wr.setCell ⟨w.heap.size, 0, none⟩ (.int .u64 (id : Nat))).setCell ⟨w.heap.size, 1, none⟩ (.string x.key)).setCell ⟨w.heap.size, 2, none⟩ (.slice A2 x.L.length c2) := ⟨_, rfl⟩
          have bD : Bx wC w.heap.size 40 #[.int .u64 (id : Nat), .string x.key, .slice A2 x.L.length c2] := by rw [hwC]; exact ((bx.set 0 _).set 1 _).set 2 _
          have qC : Q w wC := by rw [hwC]; exact Q.set (Q.set (Q.set q (Nat.le_refl _) _) (Nat.le_refl _) _) (Nat.le_refl _) _
          rw [← hwC]
          have v0 := bD.cell 0
          have v1 := bD.cell 1
          have v2 := bD.cell 2
          simp only [List.getElem?_toArray, List.getElem?_cons_zero, List.getElem?_cons_succ] at v0 v1 v2
          refine bodyPost_ret (v := .tuple #[.agg #[.int .u64 (id : Nat), .string x.key, .slice A2 x.L.length c2], .int .i64 0]) ?_ rfl ⟨.slice A2 x.L.length c2, by rw [HV.out.1, HV.out.2, upl, HX.out]; rfl, by rw [HV.out.1]; exact HPS.out, qC⟩
          rw [results_cell_tmp rfl]
          go_simp
        · have HK2 : Hid (∀ j (hj : j < i + 1) (hl : j < l.length), l[j].id ≠ id) := Lib.hid (fun j hj hl => by
            by_cases e : j = i
            · subst e; exact hid
            · exact HK.out j (by omega) hl)
          obtain ⟨x, hx⟩ : ∃ x, x = l[i].id := ⟨_, rfl⟩
          rw [← hx] at d0 hid
          have hii : ¬ (x : Int) = (id : Int) := by omega
          clear hx hat hps hid e2 d1 d2
          go_wp2
          go_roundw
          case rel => exact ⟨i + 1, by omega, by go_num, q, bx, HK2⟩
          case measure => simp [intOf]; omega
      · have HV : Hid (r = noU ∧ e = 4) := Lib.hid (by
          have := HH.out
          cases this with
          | arg h => exact absurd HO.out h
          | none _ h => exact ⟨rfl, rfl⟩
          | yes j hj _ h1 h2 => exact absurd h1 (HK.out j (by omega) hj))
        have hilt : ¬ (i : Int) < (l.length : Int) := by omega
        have r0 := bx.cell 0
        have r1 := bx.cell 1
        have r2 := bx.cell 2
        have h0 := bx.frozen 0
        have h1 := bx.frozen 1
        have h2 := bx.frozen 2
        simp only [List.getElem?_toArray, List.getElem?_cons_zero, List.getElem?_cons_succ] at r0 r1 r2
        go_wp2
        (try simp only [Exit.inBlock, Exit.then])
        obtain ⟨wC, hwC⟩ : ∃ wC, wC = ((wr.setCell ⟨w.heap.size, 0, none⟩ (.int .u64 0)).setCell ⟨w.heap.size, 1, none⟩ (.string ⟨#[]⟩)).setCell ⟨w.heap.size, 2, none⟩ (.slice none 0 0) := ⟨_, rfl⟩
        have bD : Bx wC w.heap.size 40 #[.int .u64 0, .string ⟨#[]⟩, .slice none 0 0] := by rw [hwC]; exact ((bx.set 0 _).set 1 _).set 2 _
        have qC : Q w wC := by rw [hwC]; exact Q.set (Q.set (Q.set q (Nat.le_refl _) _) (Nat.le_refl _) _) (Nat.le_refl _) _
        rw [← hwC]
        have v0 := bD.cell 0
        have v1 := bD.cell 1
        have v2 := bD.cell 2
        simp only [List.getElem?_toArray, List.getElem?_cons_zero, List.getElem?_cons_succ] at v0 v1 v2
        refine bodyPost_ret (v := .tuple #[.agg #[.int .u64 0, .string ⟨#[]⟩, .slice none 0 0], .int .i64 4]) ?_ rfl ⟨.slice none 0 0, by rw [HV.out.1, HV.out.2]; rfl, by rw [HV.out.1]; exact Prts.nil _ _, qC⟩
        rw [results_cell_tmp rfl]
        go_simp
  · have C := Lib.hid (CK false (.inr ⟨rfl, hok⟩))
    have HV : Hid (r = noU ∧ e = 1) := Lib.hid (by
      cases h with
      | arg h => exact ⟨rfl, rfl⟩
      | none h _ => exact absurd h hok
      | yes j hj h _ _ => exact absurd h hok)
    clear CK ht hs hok h
    go_enter Try.func17, Try.ntmps17
    go_wp2_with fail
    refine (C.out).mono ?_
    rintro e w1 ⟨rfl, q1⟩
    have bx := bx0.on q1
    have r0 := bx.cell 0
    have r1 := bx.cell 1
    have r2 := bx.cell 2
    have h0 := bx.frozen 0
    have h1 := bx.frozen 1
    have h2 := bx.frozen 2
    simp only [List.getElem?_toArray, List.getElem?_cons_zero, List.getElem?_cons_succ] at r0 r1 r2
    go_wp2
    (try simp only [Exit.inBlock, Exit.then])
    obtain ⟨wC, hwC⟩ : ∃ wC, wC = ((w1.setCell ⟨w.heap.size, 0, none⟩ (.int .u64 0)).setCell ⟨w.heap.size, 1, none⟩ (.string ⟨#[]⟩)).setCell ⟨w.heap.size, 2, none⟩ (.slice none 0 0) := ⟨_, rfl⟩
    have bD : Bx wC w.heap.size 40 #[.int .u64 0, .string ⟨#[]⟩, .slice none 0 0] := by rw [hwC]; exact ((bx.set 0 _).set 1 _).set 2 _
    have qC : Q w wC := by rw [hwC]; exact Q.set (Q.set (Q.set (q0.trans q1) (Nat.le_refl _) _) (Nat.le_refl _) _) (Nat.le_refl _) _
    rw [← hwC]
    have v0 := bD.cell 0
    have v1 := bD.cell 1
    have v2 := bD.cell 2
    simp only [List.getElem?_toArray, List.getElem?_cons_zero, List.getElem?_cons_succ] at v0 v1 v2
    refine bodyPost_ret (v := .tuple #[.agg #[.int .u64 0, .string ⟨#[]⟩, .slice none 0 0], .int .i64 1]) ?_ rfl ⟨.slice none 0 0, by rw [HV.out.1, HV.out.2]; rfl, by rw [HV.out.1]; exact Prts.nil _ _, qC⟩
    rw [results_cell_tmp rfl]
    go_simp
end Go.Proofs.Ytlahccmlnbdekaa
