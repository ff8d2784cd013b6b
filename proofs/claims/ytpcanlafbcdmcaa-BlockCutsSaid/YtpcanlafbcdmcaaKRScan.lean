/-
  Contract of the document's Scan.
-/
import Derived.Test.YtpcanlafbcdmcaaKRTail
import Derived.Test.YtpcanlafbcdmcaaKRLay
namespace Go.Proofs.Ytpcanlafbcdmcaa
set_option maxRecDepth 100000
open Go.ChangeShapes Go.WideShapes Go.ChangeAt Go.RowKit
set_option linter.unusedVariables false
set_option linter.unusedSimpArgs false
set_option maxRecDepth 100000

def RScanP (w : World) (l : List ByteArray) (e : Ending) (w' : World) : Prop :=
  ∃ A c, e = .returned (.tuple #[.slice A (allK l).1.length c, .int .i64 ((allK l).2.1 : Nat), .bool (allK l).2.2]) ∧ Tcs w' w'.heap.size (.slice A (allK l).1.length c) (allK l).1 ∧ Q w w'
theorem allK_all {l : List ByteArray} (h0 : (restK l).length = 0) : allK l = (recsK l, 0, true) := by rw [allK_eq, if_pos (.inl h0), h0]
theorem allK_tail {l : List ByteArray} (h1 : tailK (restK l) = true) : allK l = (recsK l, (restK l).length, true) := by rw [allK_eq, if_pos (.inr h1)]
theorem allK_bad {l : List ByteArray} (h0 : 0 < (restK l).length) (h1 : tailK (restK l) = false) : allK l = ([], 0, false) := by rw [allK_eq, if_neg (by rintro (h | h); omega; rw [h1] at h; cases h)]
theorem join_eq (s : ByteArray) (m : List ByteArray) (h : ∀ b ∈ m, b.size = 64) : joinK (layK s) = joinK m ↔ layK s = m :=
  ⟨fun e => by have := congrArg cutK e; rwa [cut_join _ (layK_size s), cut_join _ h] at this, fun e => by rw [e]⟩
theorem first_full {l : List ByteArray} (h0 : 0 < l.length) (hf : ¬ (manyK (numK (l[0]'h0)) = 0 ∨ l.length < manyK (numK (l[0]'h0)))) : ∀ n k s, n = numK (l[0]'h0) → k = manyK n → s = mk (((bodyK (l.take k)).drop 2).take n) → firstK l = if layK s = l.take k then some s else none := by
  rintro n k s rfl rfl rfl
  cases l with
  | nil => cases h0
  | cons b r =>
    rw [firstK]
    simp only
    rw [if_neg (show ¬ (manyK (numK b) = 0 ∨ (b :: r).length < manyK (numK b)) from hf)]
    rfl
set_option maxHeartbeats 16000000 in
theorem rscan_any (l : List ByteArray) (v : Value) (w : World) (hz : ∀ b ∈ l, b.size = 64) (hl : l.length ≤ 100000) (ht : Tcs w w.heap.size v l) :
    Calls Try.prog 20 #[v] w (RScanP w l) := by
  obtain ⟨PO, hPO⟩ : ∃ PO, PO = RScanP w l := ⟨_, rfl⟩
  rw [← hPO]
  have HPO : Hid (∀ A c n k w' R, allK l = (R, n, k) → Tcs w' w'.heap.size (.slice A R.length c) R → Q w w' → PO (.returned (.tuple #[.slice A R.length c, .int .i64 (n : Nat), .bool k])) w') := Lib.hid (by
    intro A c n k w' R h h2 h3
    rw [hPO]
    refine ⟨A, c, ?_, ?_, h3⟩
    · rw [h]
    · rw [h]; exact h2)
  clear hPO
  obtain ⟨A, c, rfl, hlc⟩ := ht.form
  have HT := Lib.hid ht
  have HZ := Lib.hid hz
  have HALL := Lib.hid (allK_all (l := l))
  have HTAIL := Lib.hid (allK_tail (l := l))
  have HBAD := Lib.hid (allK_bad (l := l))
  clear ht hlc hz
  go_enter Try.func20, Try.ntmps20
  go_wp2_with fail
  go_loopw [0, 5] (fun V O wr => ∃ L R : List ByteArray, Hid (∀ b ∈ L, b.size = 64) ∧ Hid (recsK l = R ++ recsK L ∧ restK l = restK L ∧ L.length ≤ l.length ∧ R.length ≤ l.length - L.length) ∧ (∃ A1 c1, V = .slice A1 L.length c1) ∧ Hid (Tcs w w.heap.size V L) ∧ Hid (OwnT w.heap.size wr O R) ∧ Hid (Q w wr)) (fun V _ _ => lenV V)
  case atStart => exact ⟨l, [], HZ, Lib.hid ⟨rfl, rfl, Nat.le_refl _, by simp⟩, ⟨A, c, rfl⟩, HT, Lib.hid (OwnT.nil _ _), Lib.hid (Q.refl _)⟩
  case round =>
    obtain ⟨L, R, HZL, HE, ⟨A1, c1, rfl⟩, HTL, HO, HQ⟩ := hrel
    obtain ⟨A2, c2, rfl, hoc⟩ := HO.out.form
    obtain ⟨wo, hwo⟩ : ∃ x, x = wr := ⟨_, rfl⟩
    subst hwo
    by_cases h0 : 0 < L.length
    · have h0' : (0 : Int) < (L.length : Int) := by omega
      have hLl : L.length ≤ 1000000 := by have := HE.out.2.2.1; omega
      have T := Lib.hid (fun x (q : Q wo x) => rtail_any L _ x h0 HZL.out hLl (HTL.out.on (HQ.out.trans q)))
      have HNONE : Hid (firstK L = none → recsK l = R ∧ restK l = L) := Lib.hid (fun hf => by
        obtain ⟨e1, e2⟩ := recsK_none hf
        obtain ⟨g1, g2, -, -⟩ := HE.out
        rw [e1, List.append_nil] at g1
        exact ⟨g1, by rw [g2, e2]⟩)
      obtain ⟨a1, c1', hv, hLc, ha1, hcs⟩ := HTL.out.at h0
      injection hv with e1 e2 e3
      subst e1 e3
      have HCS := Lib.hid hcs
      have hc0 := hcs 0 h0
      rw [show a1.add 0 = a1 by cases a1; simp [Addr.add]] at hc0
      have hc := (HQ.out.cell ha1).trans hc0
      have hs := HZL.out L[0] (List.getElem_mem h0)
      have HFEW : Hid (manyK (numK (L[0]'h0)) = 0 ∨ L.length < manyK (numK (L[0]'h0)) → firstK L = none) := Lib.hid (fun h => by
        cases L with
        | nil => cases h0
        | cons b r => exact first_few rfl h)
      have HFULL := Lib.hid (first_full (l := L) h0)
      obtain ⟨b, hb⟩ : ∃ b, b = L[0] := ⟨_, rfl⟩
      rw [← hb] at hc hs HFEW HFULL
      clear hb hcs hc0
      have hs3 : 0 < b.size := by omega
      have hs4 : 1 < b.size := by omega
      have hs1 : (0 : Int) < (b.size : Int) := by omega
      have hs2 : (1 : Int) < (b.size : Int) := by omega
      have hx0 := at_get b 0 hs3
      have hx1 := at_get b 1 hs4
      have x0l := atK_lt b 0
      have x1l := atK_lt b 1
      have hnn : numK b = atK b 0 + 256 * atK b 1 := rfl
      obtain ⟨x0, hx⟩ : ∃ x0, x0 = atK b 0 := ⟨_, rfl⟩
      obtain ⟨x1, hy⟩ : ∃ x1, x1 = atK b 1 := ⟨_, rfl⟩
      rw [← hx] at hx0 x0l hnn
      rw [← hy] at hx1 x1l hnn
      obtain ⟨n, hn⟩ : ∃ n, n = numK b := ⟨_, rfl⟩
      rw [← hn] at HFEW HFULL hnn
      have hni : (x0 : Int) + 256 * (x1 : Int) = (n : Int) := by omega
      have hn2 : n < 65536 := by omega
      have M := Lib.hid fun w => rmany_any (n : Int) w (by omega)
      rw [manyI_nat] at M
      have hkl := manyK_le n
      have HRM := Lib.hid (fun h => manyK_room (n := n) h)
      have HR9 : Hid (¬ manyK n = 0 → n ≤ 12000) := Lib.hid (fun h => by
        apply Classical.byContradiction; intro h2
        apply h; unfold manyK; rw [if_neg h2])
      have HF2 := Lib.hid (fun (h : ¬ (manyK n = 0 ∨ L.length < manyK n)) s hs => HFULL.out h n (manyK n) s rfl rfl hs)
      have HKS : Hid (∀ s : ByteArray, s.size = n → manyK n = manyK s.size) := Lib.hid (fun s hs => by rw [hs])
      obtain ⟨k, hk⟩ : ∃ k, k = manyK n := ⟨_, rfl⟩
      rw [← hk] at M hkl HFEW HRM HR9 HF2 HKS
      have HS9 := Lib.hid hs
      clear hx hy hn hk hnn HFULL hs
      go_upto_region 3 with fail
      go_quiet (fail)
      have HQ3 := Lib.hid (HQ.out.drewN nq)
      have QQ := Lib.hid ((Q.refl wo).drewN nq)
      obtain ⟨w3, hw3⟩ : ∃ z, z = wo.drewN nq := ⟨_, rfl⟩
      rw [← hw3] at HQ3 QQ ⊢
      clear hw3 hc
      go_wp2_with fail
      refine (M.out _).mono ?_
      rintro e w4 ⟨rfl, d4⟩
      have HQ4 := Lib.hid (HQ3.out.trans d4.q)
      have QQ4 := Lib.hid (QQ.out.trans d4.q)
      clear d4
      by_cases hk0 : k = 0
      · have HN := Lib.hid (HNONE.out (HFEW.out (.inl hk0)))
        have hk1 : ((k : Int) == 0) = true := by rw [hk0]; rfl
        have hk2 : decide (k = 0) = true := by simp [hk0]
        clear hk0
        go_wp2_with fail
        cases ht : tailK L with
        | true =>
          have HV := Lib.hid (HTAIL.out (by rw [HN.out.2]; exact ht))
          rw [ht] at T
          clear ht
          refine (T.out _ QQ4.out).mono ?_
          rintro e w2 ⟨rfl, q2⟩
          have Q3 := Lib.hid (QQ4.out.trans q2)
          clear q2
          go_wp2_with fail
          (try simp only [Exit.inBlock, Exit.then])
          go_ret3
          exact HPO.out A2 c2 L.length true _ R (by rw [HV.out, HN.out.1, HN.out.2]) (HO.out.tcs.on Q3.out) (HQ.out.trans Q3.out)
        | false =>
          have HV := Lib.hid (HBAD.out (by rw [HN.out.2]; exact h0) (by rw [HN.out.2]; exact ht))
          rw [ht] at T
          clear ht
          refine (T.out _ QQ4.out).mono ?_
          rintro e w2 ⟨rfl, q2⟩
          have Q3 := Lib.hid (QQ4.out.trans q2)
          clear q2
          go_wp2_with fail
          (try simp only [Exit.inBlock, Exit.then])
          go_ret3
          exact HPO.out none 0 0 false _ [] HV.out (Tcs.nil _ _) (HQ.out.trans Q3.out)
      · by_cases hkL : L.length < k
        · have HN := Lib.hid (HNONE.out (HFEW.out (.inr hkL)))
          have hk1 : ((k : Int) == 0) = false := beq_false_of_ne (by omega)
          have hk2 : (L.length : Int) < (k : Int) := by omega
          have hk3 : decide (k = 0) = false := by simp [hk0]
          have hk4 : decide (L.length < k) = true := by simp; omega
          clear hkL hk0
          go_wp2_with fail
          cases ht : tailK L with
          | true =>
            have HV := Lib.hid (HTAIL.out (by rw [HN.out.2]; exact ht))
            rw [ht] at T
            clear ht
            refine (T.out _ QQ4.out).mono ?_
            rintro e w2 ⟨rfl, q2⟩
            have Q3 := Lib.hid (QQ4.out.trans q2)
            clear q2
            go_wp2_with fail
            (try simp only [Exit.inBlock, Exit.then])
            go_ret3
            exact HPO.out A2 c2 L.length true _ R (by rw [HV.out, HN.out.1, HN.out.2]) (HO.out.tcs.on Q3.out) (HQ.out.trans Q3.out)
          | false =>
            have HV := Lib.hid (HBAD.out (by rw [HN.out.2]; exact h0) (by rw [HN.out.2]; exact ht))
            rw [ht] at T
            clear ht
            refine (T.out _ QQ4.out).mono ?_
            rintro e w2 ⟨rfl, q2⟩
            have Q3 := Lib.hid (QQ4.out.trans q2)
            clear q2
            go_wp2_with fail
            (try simp only [Exit.inBlock, Exit.then])
            go_ret3
            exact HPO.out none 0 0 false _ [] HV.out (Tcs.nil _ _) (HQ.out.trans Q3.out)
        · have hk1 : ((k : Int) == 0) = false := beq_false_of_ne (by omega)
          have hk2 : ¬ (L.length : Int) < (k : Int) := by omega
          have hk3 : decide (k = 0) = false := by simp [hk0]
          have hk4 : decide (L.length < k) = false := by simp; omega
          have HFF := Lib.hid (HF2.out (by omega))
          have hn9 := HR9.out hk0
          have hroom := HRM.out hn9
          have HLK : Hid (k ≤ L.length) := Lib.hid (by omega)
          have HKP : Hid (0 < k) := Lib.hid (by omega)
          have HBL := Lib.hid (fun j h => body_len L HZL.out j h)
          have HBT := Lib.hid (fun j h => body_take L j h)
          clear hkL hk0 HF2 HFEW
          go_wp2_with fail
          go_loopw [8, 9] (fun S I wr => ∃ i : Nat, i ≤ k ∧ I = .int .i64 i ∧ S = .string (mk (bodyK (L.take i))) ∧ Hid (Q w4 wr)) (fun _ I _ => k - (intOf I).toNat)
          case atStart => exact ⟨0, Nat.zero_le _, rfl, rfl, Lib.hid (Q.refl _)⟩
          case round =>
            obtain ⟨i, hi, rfl, rfl, HQ5⟩ := hrel
            by_cases hlt : i < k
            · have hkt : (i : Int) < (k : Int) := by omega
              have hjl : i < L.length := by have := HLK.out; omega
              have hjl' : (i : Int) < (L.length : Int) := by omega
              have hat : wr.cell? (a1.add i) = some (.string L[i]) := ((HQ4.out.trans HQ5.out).cell (by rw [add_block]; exact ha1)).trans (HCS.out i hjl)
              have hbz : L[i].size = 64 := HZL.out _ (List.getElem_mem hjl)
              have HB := Lib.hid (HBT.out i hjl)
              have hlen := HBL.out i (by omega)
              obtain ⟨y, hy⟩ : ∃ y, y = L[i] := ⟨_, rfl⟩
              rw [← hy] at hat hbz HB
              have hyz : (y.extract 0 60).size = 60 := by rw [size_cut _ (by omega)]
              have hb1 : (60 : Int) ≤ (y.size : Int) := by omega
              have hJs : (mk (bodyK (L.take i))).size = 60 * i := by rw [mk_size, hlen]
              obtain ⟨J, hJ⟩ : ∃ J, J = mk (bodyK (L.take i)) := ⟨_, rfl⟩
              have HJ : Hid (J ++ y.extract 0 60 = mk (bodyK (L.take (i + 1)))) := Lib.hid (by rw [hJ, HB.out]; apply bl_inj; rw [bl_append, bl_mk, bl_mk])
              rw [← hJ] at hJs ⊢
              have hsum : J.size + (y.extract 0 60).size ≤ 100000 := by omega
              clear hy hJ hlen hJs
              go_wp2_with fail
              go_roundw
              case rel => exact ⟨i + 1, by omega, by go_num, by rw [HJ.out], HQ5⟩
              case measure => simp [intOf]; omega
            · obtain rfl : i = k := by omega
              have hlen := HBL.out i HLK.out
              have hJs : (mk (bodyK (L.take i))).size = 60 * i := by rw [mk_size, hlen]
              have HSV : Hid (mk (((bodyK (L.take i)).drop 2).take n) = (mk (bodyK (L.take i))).extract 2 (n + 2)) := Lib.hid (by apply bl_inj; rw [bl_extract, bl_mk, bl_mk, show n + 2 - 2 = n by omega])
              obtain ⟨J, hJ⟩ : ∃ J, J = mk (bodyK (L.take i)) := ⟨_, rfl⟩
              rw [← hJ] at hJs HSV ⊢
              obtain ⟨m, hm⟩ : ∃ m, m = n + 2 := ⟨_, rfl⟩
              rw [← hm] at HSV
              have g1 : (2 : Int) + (n : Int) = (m : Int) := by omega
              have g2 : (m : Int) ≤ (J.size : Int) := by omega
              have g3 : m ≤ J.size := by omega
              have g4 : (2 : Int) ≤ (m : Int) := by omega
              have g5 : 2 ≤ m := by omega
              have g6 : m ≤ 100000 := by omega
              have HSZ : Hid ((J.extract 2 m).size = n) := Lib.hid (by rw [size_cut _ g3, hm]; omega)
              have HFS := Lib.hid (HFF.out (J.extract 2 m) HSV.out.symm)
              obtain ⟨s, hs⟩ : ∃ s, s = J.extract 2 m := ⟨_, rfl⟩
              rw [← hs] at HFS HSZ
              have hs' : J.extract 2 m = s := hs.symm
              have hs12 : s.size ≤ 12000 := by have := HSZ.out; omega
              have HKS2 := Lib.hid (HKS.out s HSZ.out)
              have HJE := Lib.hid (join_eq s (L.take i) (fun b hb => HZL.out b (List.mem_of_mem_take hb)))
              have hQ6 := HQ4.out.trans HQ5.out
              have HQ6 := Lib.hid hQ6
              have QQ6 := Lib.hid (QQ4.out.trans HQ5.out)
              have HTK := HTL.out.cutTake HLK.out
              have hkc : (i : Int) ≤ (c1 : Int) := by omega
              have hkc3 : i ≤ c1 := by omega
              have LC := Lib.hid fun x => rlay_any s x hs12
              have J1 := Lib.hid (fun x (q : Q w x) => join_any (L.take i) (.slice (some a1) i c1) x (by rw [List.length_take]; omega) (fun b hb => by have := HZL.out b (List.mem_of_mem_take hb); omega) (HTK.on q).txts)
              clear hJ hlen hJs hs hm hQ6 HTK
              go_upto_region 12 with fail
              refine wp_region_held_drew (S := fun _ => True) (by kernel_rfl) trivial (fun hHeld => ?_)
              have qd := (Q.refl wr).drew
              obtain ⟨wd, hwd⟩ : ∃ z, z = wr.drew := ⟨_, rfl⟩
              rw [← hwd] at qd ⊢
              clear hwd
              refine tkV 0 ?_
              refine tkV 3 ?_
              refine tkV 4 ?_
              refine tkB 5 (.slice (some a1) i c1) ?_
              refine aR [1] ?_
              refine AllReadyH.cons (o := _) rfl (fun K hK => ?_) AllReadyH.nil
              go_simp
              go_at_call 15
              refine (LC.out _).mono ?_
              rintro e w7 ⟨A7, c7, rfl, ho7, q7⟩
              have HQ7 := Lib.hid ((HQ6.out.trans qd).trans q7)
              have QQ7 := Lib.hid ((QQ6.out.trans qd).trans q7)
              have HJ7 := Lib.hid (join_any (layK s) _ w7 (by rw [layK_length]; have := manyK_le s.size; omega) (fun b hb => by have := layK_size s b hb; omega) ho7.tcs.txts)
              clear q7 ho7
              refine hK.out _ _ trivial (fun _ => ?_)
              clear hK K
              refine pg ?_
              refine aR [2] ?_
              refine AllReadyH.cons (o := _) rfl (fun K hK => ?_) AllReadyH.nil
              go_simp
              go_at_call 17
              refine HJ7.out.mono ?_
              rintro e w8 ⟨rfl, d8⟩
              have HQ8 := Lib.hid (HQ7.out.trans d8.q)
              have QQ8 := Lib.hid (QQ7.out.trans d8.q)
              clear d8
              refine hK.out _ _ trivial (fun _ => ?_)
              clear hK K
              refine pg ?_
              refine aR [6] ?_
              refine AllReadyH.cons (o := _) rfl (fun K hK => ?_) AllReadyH.nil
              go_simp
              go_at_call 17
              refine (J1.out _ HQ8.out).mono ?_
              rintro e w9 ⟨rfl, d9⟩
              have HQ9 := Lib.hid (HQ8.out.trans d9.q)
              have QQ9 := Lib.hid (QQ8.out.trans d9.q)
              clear d9
              refine hK.out _ _ trivial (fun _ => ?_)
              clear hK K
              refine pg ?_
              by_cases hq : joinK (layK s) = joinK (L.take i)
              · have he : ((joinK (layK s)).toList == (joinK (L.take i)).toList) = true := by rw [hq]; simp
                have HSOME : Hid (firstK L = some s) := Lib.hid (by rw [HFS.out, if_pos (HJE.out.1 hq)])
                have HRS := Lib.hid (recsK_some HSOME.out)
                have oa := Lib.hid ((HO.out.on QQ9.out).on ((Q.refl w9).alloc (.cells #[.string s] 9)))
                have CX : Hid ((w9.alloc (.cells #[.string s] 9)).cell? ⟨w9.heap.size, 0, none⟩ = some (.string s)) := Lib.hid ((Bx.new w9 9 #[.string s]).cell 0)
                have HWS : Hid (w.heap.size ≤ (w9.alloc (.cells #[.string s] 9)).heap.size) := Lib.hid (by rw [World.size_alloc]; have := HQ9.out.size; omega)
                have HL4 : Hid (R.length ≤ 4000000) := Lib.hid (by have := HE.out.2.2.2; omega)
                refine tkB 7 (.bool false) ?_
                refine wpAnyH_done (by kernel_rfl) ?_ _
                clear hq he
                go_wp2_with (at_builtin; refine wpList_snoc_txt _ rfl _ _ rfl w.heap.size w9.heap.size _ _ s rfl rfl CX.out oa.out HWS.out HL4.out ?_; intro v6 w6 ho6 hg6; obtain ⟨A6, c6, rfl, hc6⟩ := ho6.out.form; rw [List.length_append, List.length_singleton] at ho6)
                go_roundw
                case rel =>
                  have hcd := HTL.out.cutDrop HLK.out
                  have hdl : (L.drop i).length = L.length - i := by rw [List.length_drop]
                  refine ⟨L.drop i, R ++ [s], Lib.hid (fun b hb => HZL.out b (List.mem_of_mem_drop hb)), Lib.hid ?_, ⟨_, _, by rw [hdl]⟩, Lib.hid hcd, ?_, Lib.hid (OwnT.below (HQ9.out.trans ((Q.refl w9).alloc _)) HWS.out oa.out hg6.out)⟩
                  · obtain ⟨g1, g2, g3, g4⟩ := HE.out
                    obtain ⟨r1, r2⟩ := HRS.out
                    rw [← HKS2.out] at r1 r2
                    have := HKP.out
                    refine ⟨by rw [g1, r1, List.append_assoc]; rfl, by rw [g2, r2], by omega, by rw [List.length_append, List.length_singleton]; omega⟩
                  · first | exact ho6 | (rw [List.length_append, List.length_singleton]; exact ho6)
                case measure => simp [lenV]; have := HKP.out; omega
              · have he : ((joinK (layK s)).toList == (joinK (L.take i)).toList) = false := key_ne hq
                have HN := Lib.hid (HNONE.out (by rw [HFS.out, if_neg (fun h => hq (HJE.out.2 h))]))
                refine tkB 7 (.bool true) ?_
                refine wpAnyH_done (by kernel_rfl) ?_ _
                clear hq he
                go_wp2_with fail
                cases ht : tailK L with
                | true =>
                  have HV := Lib.hid (HTAIL.out (by rw [HN.out.2]; exact ht))
                  rw [ht] at T
                  clear ht
                  refine (T.out _ QQ9.out).mono ?_
                  rintro e w2 ⟨rfl, q2⟩
                  have Q3 := Lib.hid (QQ9.out.trans q2)
                  clear q2
                  go_wp2_with fail
                  (try simp only [Exit.inBlock, Exit.then])
                  go_ret3
                  exact HPO.out A2 c2 L.length true _ R (by rw [HV.out, HN.out.1, HN.out.2]) (HO.out.tcs.on Q3.out) (HQ.out.trans Q3.out)
                | false =>
                  have HV := Lib.hid (HBAD.out (by rw [HN.out.2]; exact h0) (by rw [HN.out.2]; exact ht))
                  rw [ht] at T
                  clear ht
                  refine (T.out _ QQ9.out).mono ?_
                  rintro e w2 ⟨rfl, q2⟩
                  have Q3 := Lib.hid (QQ9.out.trans q2)
                  clear q2
                  go_wp2_with fail
                  (try simp only [Exit.inBlock, Exit.then])
                  go_ret3
                  exact HPO.out none 0 0 false _ [] HV.out (Tcs.nil _ _) (HQ.out.trans Q3.out)
    · have hl0 : L = [] := List.length_eq_zero_iff.1 (by omega)
      have HV : Hid (allK l = (R, 0, true)) := Lib.hid (by
        subst hl0
        obtain ⟨g1, g2, -, -⟩ := HE.out
        rw [HALL.out (by rw [g2]; rfl), g1]
        simp [recsK, scanK])
      have hl1 : ¬ (0 : Int) < (L.length : Int) := by omega
      have hl2 : decide (0 < L.length) = false := by simpa using h0
      have hl3 : (L.length : Int) = 0 := by omega
      clear hl0
      go_wp2_with fail
      (try simp only [Exit.inBlock, Exit.then])
      go_ret3
      exact HPO.out A2 c2 0 true _ R HV.out HO.out.tcs HQ.out
end Go.Proofs.Ytpcanlafbcdmcaa
