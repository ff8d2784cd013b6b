/-
  Proved: whatever notes and name ChangeGone is called with, it returns true and leaves what it was given as it was. No condition.
-/
import Derived.Test.YthlbpjopkaninaaNh
namespace Go.Proofs.Ythlbpjopkaninaa.changeGone
set_option maxRecDepth 100000
open Go.ChangeShapes Go.WideShapes Go.ChangeAt Go.RowKit
open Go.ChangeMaps (open_string shut_string)
set_option linter.unusedVariables false
set_option linter.unusedSimpArgs false

def goneT (y : Nte) : Nte := ⟨y.st, y.n, ⟨#[]⟩, true⟩
theorem goneT_take (A : List Nte) (i : Nat) (h : i < A.length) : (A.take (i + 1)).map goneT = (A.take i).map goneT ++ [goneT A[i]] := by
  rw [List.take_add_one, List.getElem?_eq_getElem h, List.map_append]; rfl
theorem itN_goneT (A : List Nte) : itN (A.map goneT) = [] := itN_gone fun x hx => by
  obtain ⟨y, -, rfl⟩ := List.mem_map.1 hx; rfl
def restI (T : List Itm) (N : ByteArray) : List Itm := T.filter (fun y => decide (y.n ≠ N))
theorem itN_rest {A : List Nte} {s : Nat} (h : ∀ x ∈ A, x.st ≤ s) (N : ByteArray) : itN (A ++ [⟨s, N, ⟨#[]⟩, true⟩]) = restI (itN A) N := by
  rw [itN_step h ⟨N, ⟨#[]⟩, true⟩, stepC_gone (itN_asc A) rfl]; rfl
theorem restI_no {T : List Itm} {N : ByteArray} {i : Nat} (h : i < T.length) (e : T[i].n = N) : restI (T.take (i + 1)) N = restI (T.take i) N := by
  unfold restI; rw [filtT _ _ _ h, if_neg (by simp [e]), List.append_nil]
theorem restI_yes {T : List Itm} {N : ByteArray} {i : Nat} (h : i < T.length) (e : T[i].n ≠ N) : restI (T.take (i + 1)) N = restI (T.take i) N ++ [T[i]] := by
  unfold restI; rw [filtT _ _ _ h, if_pos (by simp [e])]
theorem restI_at {T : List Itm} {N : ByteArray} {i : Nat} (h : i < T.length) (e : T[i].n ≠ N) : (restI T N)[(restI (T.take i) N).length]? = some T[i] := by
  have h2 : restI T N = restI (T.take (i + 1)) N ++ restI (T.drop (i + 1)) N := by unfold restI; rw [← List.filter_append, List.take_append_drop]
  rw [h2, restI_yes h e, List.append_assoc, List.getElem?_append_right (Nat.le_refl _)]
  simp
set_option maxHeartbeats 8000000 in
set_option maxRecDepth 100000 in
theorem walk (l : List Nte) (v : Value) (x : ByteArray) (w : World) (t0 : Ntes w w.heap.size v l) (z0 : l.length ≤ maxLen) (t1 : x.size ≤ maxLen) :
    Calls Try.prog 10 #[v, .string x] w fun e w' => e = .returned (.bool true) ∧ Q w w' := by
  have F1 := Lib.hid (fewNs_any l v w z0 t0)
  have okA : ∀ x ∈ fewNs l, okW x := fewNs_okW t0.okAll
  have lA := fewNs_len l
  obtain ⟨A, hA⟩ : ∃ A, A = fewNs l := ⟨_, rfl⟩
  rw [← hA] at F1 okA lA
  have hlast : lastN A < 18446744073709551616 := by
    rcases lastN_in A with h | ⟨y, hy, e⟩
    · rw [h]; show (0 : Nat) < _; omega
    · rw [← e]; exact (okA y hy).1
  have HLE : Hid (∀ y ∈ A, y.st ≤ lastN A) := Lib.hid fun y h => lastN_le y h
  clear hA t0 z0
  have OA := Lib.hid okA
  have OG : Hid (∀ z ∈ A.map goneT, okW z) := Lib.hid fun z hz => by
    obtain ⟨y, hy, rfl⟩ := List.mem_map.1 hz
    exact ⟨(okA y hy).1, (okA y hy).2.1, by show (0 : Nat) ≤ _; omega, trivial⟩
  have K1 := Lib.hid (fun (y : World) (u : Value) (h : Ntes y y.heap.size u A) => lastN_any A u y (by omega) h)
  obtain ⟨m, hm⟩ : ∃ m, m = lastN A := ⟨_, rfl⟩
  rw [← hm] at K1 hlast HLE
  clear hm
  go_enter Try.func10, Try.ntmps10
  go_wp2_with fail
  refine (F1.out).mono ?_
  rintro e w1 ⟨v1, rfl, o1, q1⟩
  have ra := Lib.hid (OwnW.read o1 OA.out)
  have p1 := q1
  clear o1 F1
  by_cases hsz : 200 < x.size
  · have hsz2 : (200 : Int) < (x.size : Int) := by omega
    have hcs : (x.extract 0 200).size = 200 := by rw [size_cut x (by omega)]
    go_wp2_with fail
    obtain ⟨N, hN⟩ : ∃ N, N = x.extract 0 200 := ⟨_, rfl⟩
    rw [← hN] at hcs ⊢
    have hNs : N.size ≤ maxLen := by rw [hcs]; unfold maxLen; omega
    clear hN hcs hsz hsz2 t1
    refine (K1.out _ _ ra.out).mono ?_
    rintro e w2 ⟨rfl, q2⟩
    have p2 := p1.trans q2
    have ra2 := ra.out.on q2
    by_cases hmx : m = 18446744073709551615
    · have e1 : ((m : Int) == 18446744073709551615) = true := by simp; omega
      clear hmx
      go_wp2_with fail
      refine (awakeY_any _).mono ?_
      rintro e wz ⟨rfl, qz⟩
      go_wp2_with fail
      go_ret
      exact ⟨rfl, p2.trans qz⟩
    · have e1 : ((m : Int) == 18446744073709551615) = false := by simp; omega
      have hw0 : IntKind.u64.wrap ((m : Int) + 1) = ((m + 1 : Nat) : Int) := by rw [IntKind.wrap_u64]; omega
      have hsb : m + 1 < 18446744073709551616 := by omega
      have HNX0 : itN (A ++ [⟨m + 1, N, ⟨#[]⟩, true⟩]) = restI (itN A) N := itN_rest (fun x hx => by have := HLE.out x hx; omega) N
      obtain ⟨s, hs⟩ : ∃ s : Nat, s = m + 1 := ⟨_, rfl⟩
      rw [← hs] at hw0 HNX0 hsb
      have hw1 : IntKind.u64.wrap ((m : Int) + 1) = (s : Int) := hw0
      obtain ⟨A1, c1, ea, -, -, -, h1⟩ := id ra2
      subst ea
      have H1 := Lib.hid h1
      have RA := Lib.hid ra2
      have HP := Lib.hid p2
      have okN : ∀ z ∈ A ++ [⟨s, N, ⟨#[]⟩, true⟩], okW z := fun z hz => by
        rcases List.mem_append.1 hz with h | h
        · exact okA z h
        · rw [List.mem_singleton.1 h]
          exact ⟨hsb, hNs, by show (0 : Nat) ≤ _; omega, trivial⟩
      have OKS := Lib.hid okN
      have K3 := Lib.hid (fun (y : World) (u : Value) (h : Ntes y y.heap.size u (A ++ [⟨s, N, ⟨#[]⟩, true⟩])) => itemsN_any (A ++ [⟨s, N, ⟨#[]⟩, true⟩]) u y (by simp; omega) h)
      have K4 := Lib.hid (fun (y : World) (u : Value) (h : Ntes y y.heap.size u A) => itemsN_any A u y (by omega) h)
      have K5 := Lib.hid (fun (y : World) (u : Value) (h : Ntes y y.heap.size u (A.map goneT)) => itemsN_any (A.map goneT) u y (by rw [List.length_map]; omega) h)
      rw [itN_goneT] at K5
      have OR := Lib.hid (itN_okI okN)
      have OT := Lib.hid (itN_okI okA)
      rw [HNX0] at K3 OR
      obtain ⟨T, hT⟩ : ∃ T, T = itN A := ⟨_, rfl⟩
      have lT := itN_le A
      rw [← hT] at K3 K4 OR OT lT
      obtain ⟨R, hR⟩ : ∃ R, R = restI T N := ⟨_, rfl⟩
      rw [← hR] at K3 OR
      have HR := Lib.hid hR
      clear hT hR HNX0 hw0 hs okN hsb
      clear h1 ra2 hmx
      go_wp2_with fail
      go_loopw [6, 7] (fun G J wr => ∃ i : Nat, i ≤ A.length ∧ J = .int .i64 i ∧ OwnW w2.heap.size wr G ((A.take i).map goneT) ∧ Q w2 wr) (fun _ J _ => A.length - (intOf J).toNat)
      case atStart => exact ⟨0, Nat.zero_le _, rfl, OwnW.nil _ _, Q.refl _⟩
      case round =>
        obtain ⟨i, hil, rfl, hown, hbel⟩ := hrel
        by_cases hlt : i < A.length
        · obtain ⟨a, hae, ha, hat⟩ := H1.out i hlt
          subst hae
          obtain ⟨c0, cc1, c2, c3⟩ := hat.keep (by rw [add_block]; exact ha) fun _ hp => hbel.cell hp
          have HAT : Hid (∀ x, Q w2 x → AtW x (a.add (i * 4)) A[i]) := Lib.hid fun x qx => hat.keep (by rw [add_block]; exact ha) fun p hp => qx.cell hp
          have HW := Lib.hid (goneT_take A i hlt)
          have hlen : ((A.take i).map goneT).length ≤ 4000000 := by rw [List.length_map, List.length_take]; omega
          obtain ⟨y, hy⟩ : ∃ y, y = A[i] := ⟨_, rfl⟩
          rw [← hy] at c0 cc1 HAT HW
          clear hy hat c2 c3
          have hilt : (i : Int) < (A.length : Int) := by omega
          have KS : Hid (∀ x, Q w2 x → (fun W => W.cell? (a.add (i * 4)) = some (.int .u64 (y.st : Nat)) ∧ W.cell? ⟨(a.add (i * 4)).block, (a.add (i * 4)).off + 1, none⟩ = some (.string y.n)) x) := Lib.hid fun x qx => ⟨(HAT.out x qx).1, (HAT.out x qx).2.1⟩
          go_wp2_with fail
          refine wp_region_held_drew (S := (fun W => W.cell? (a.add (i * 4)) = some (.int .u64 (y.st : Nat)) ∧ W.cell? ⟨(a.add (i * 4)).block, (a.add (i * 4)).off + 1, none⟩ = some (.string y.n))) (by kernel_rfl) ⟨c0, cc1⟩ (fun hHeld => ?_)
          refine tkV 0 ?_
          refine tkV 1 ?_
          refine tkV 2 ?_
          refine tkV 3 ?_
          refine tkV 4 ?_
          refine tkV 5 ?_
          refine tkV 6 ?_
          refine tkV 7 ?_
          refine tkV 8 ?_
          refine tkV 9 ?_
          refine tkV 10 ?_
          refine tkV 11 ?_
          refine tkV 12 ?_
          refine tkV 13 ?_
          refine aR [14] ?_
          refine AllReadyH.cons (o := _) rfl (fun K hK => ?_) AllReadyH.nil
          go_simp
          have q3 := hbel.drew.alloc (.cells (ncl (goneT y)).toArray 39)
          have own2 := (hown.on ((Q.refl wr).drew)).on ((Q.refl _).alloc (.cells (ncl (goneT y)).toArray 39))
          refine hK.out _ _ (KS.out _ q3) (fun hHeld2 => ?_)
          clear hK K
          refine pg ?_
          refine aR [15] ?_
          refine AllReadyH.cons (o := _) rfl (fun K hK => ?_) AllReadyH.nil
          rw [if_pos (by rfl)]
          refine wp_snoc_nte _ _ _ 22 Try.underlying22 rfl w2.heap.size _ _ _ (goneT y) rfl rfl (cells_onente _ (goneT y) 39) own2 ?hb ?hl ?_
          case hb => exact q3.size
          case hl => exact hlen
          intro v8 w8 o8 g8
          have q8 : Q w2 w8 := Below.grown q3 g8 q3.size (fun k hk => (World.ownsRow.lt own2 k hk).1)
          have o8 : OwnW w2.heap.size w8 v8 ((A.take (i + 1)).map goneT) := by rw [HW.out]; exact o8
          refine hK.out _ _ (KS.out _ q8) (fun hHeld3 => ?_)
          clear hK K
          refine pg ?_
          refine tkV 16 ?_
          refine wpAnyH_done (by kernel_rfl) ?_ _
          go_wp2_with fail
          go_roundw
          case rel => exact ⟨i + 1, by omega, by go_num, o8, q8⟩
          case measure => simp [intOf]; omega
        · have h2 : ¬ (i : Int) < (A.length : Int) := by omega
          rw [List.take_of_length_le (by omega)] at hown
          have RG := Lib.hid (OwnW.read hown OG.out)
          have RA2 := Lib.hid (RA.out.on hbel)
          obtain ⟨A8, c8, e8⟩ := RG.out.form
          rw [List.length_map] at e8
          subst e8
          have own0 := noneN_made wr
          have qn := (Q.refl wr).alloc (.cells #[] 39)
          have r4 := RA2.out.on qn
          have hP2 := Lib.hid (HP.out.trans hbel)
          clear hown H1
          go_wp2_with (at_builtin; first
            | (refine wpList_append_nte _ rfl _ _ 22 Try.underlying22 rfl wr.heap.size _ (.slice (some ⟨wr.heap.size, 0, none⟩) 0 0) [] A rfl rfl own0 r4 ?hb ?hl ?_; (case hb => simp); (case hl => simp; omega); intro v4 w4 o4 g4; have q4 : Q wr w4 := Below.grown qn g4 qn.size (fun k hk => (World.ownsRow.lt own0 k hk).1); clear own0 r4 g4)
            | (have own5 := OwnW.on o4 ((Q.refl w4).alloc (.cells (ncl ⟨s, N, ⟨#[]⟩, true⟩).toArray 39)); have qm := q4.alloc (.cells (ncl ⟨s, N, ⟨#[]⟩, true⟩).toArray 39); refine wpList_snoc_nte _ rfl _ _ 22 22 Try.underlying22 rfl wr.heap.size _ _ A ⟨s, N, ⟨#[]⟩, true⟩ rfl rfl (cells_onente w4 ⟨s, N, ⟨#[]⟩, true⟩ 39) own5 ?hb ?hl ?_; (case hb => exact qm.size); (case hl => omega); intro v5 w5 o5 g5; have q5 : Q wr w5 := Below.grown qm g5 qm.size (fun k hk => (World.ownsRow.lt own5 k hk).1); clear own5 g5 o4 q4 qm))
          have rN := OwnW.read o5 OKS.out
          have rA6 := RA2.out.on q5
          have hP5 := Lib.hid (hP2.out.trans q5)
          have HG5 := Lib.hid (RG.out.on q5)
          clear RA RA2 RG HP hbel qn
          refine (K3.out _ _ rN).mono ?_
          rintro e w6 ⟨v6, rfl, o6, q6⟩
          have HR6 := Lib.hid (OwnI.read o6 OR.out)
          have rA7 := rA6.on q6
          clear rN o5 o6 q5 rA6
          go_wp2_with fail
          refine (K4.out _ _ rA7).mono ?_
          rintro e w7 ⟨v7, rfl, o7, q7⟩
          have HR7 := Lib.hid (HR6.out.on q7)
          have HT7 := Lib.hid (OwnI.read o7 OT.out)
          have HG7 := Lib.hid ((HG5.out.on q6).on q7)
          have hP7 := Lib.hid ((hP5.out.trans q6).trans q7)
          clear HR6 HG5 hP5 q6 q7 o7 rA7
          obtain ⟨A6, c6, e6, -, -, -, h6⟩ := id HR7.out
          subst e6
          obtain ⟨A7, c7, e7, -, -, -, h7⟩ := id HT7.out
          subst e7
          have H6 := Lib.hid h6
          have H7 := Lib.hid h7
          clear h6 h7 HR7 HT7 K1 K3 K4
          go_wp2_with fail
          go_loopw [10, 11] (fun G J wz => ∃ i k : Nat, i ≤ T.length ∧ J = .int .i64 i ∧ G = .int .i64 k ∧ Hid (k = (restI (T.take i) N).length) ∧ k ≤ i ∧ Q w7 wz) (fun _ J _ => T.length - (intOf J).toNat)
          case atStart => exact ⟨0, 0, Nat.zero_le _, rfl, rfl, Lib.hid rfl, Nat.le_refl _, Q.refl _⟩
          case round =>
            obtain ⟨i, k, hil, rfl, rfl, HK, hki, q⟩ := hrel
            by_cases hlt : i < T.length
            · obtain ⟨a, hae, ha, hat⟩ := H7.out i hlt
              subst hae
              obtain ⟨c0, cc1⟩ := hat.keep (by rw [add_block]; exact ha) fun _ hp => q.cell hp
              have hilt : (i : Int) < (T.length : Int) := by omega
              by_cases he : T[i].n = N
              · have HN := Lib.hid (restI_no hlt he)
                rw [he] at c0
                clear hat he cc1
                go_wp2_with fail
                go_roundw
                case rel => exact ⟨i + 1, k, by omega, by go_num, rfl, Lib.hid (by rw [HN.out]; exact HK.out), by omega, q⟩
                case measure => simp [intOf]; omega
              · have HN := Lib.hid (restI_yes hlt he)
                have hat6 := restI_at hlt he
                rw [← HR.out, ← HK.out] at hat6
                obtain ⟨hk6, hk7⟩ := List.getElem?_eq_some_iff.1 hat6
                obtain ⟨b, hbe, hb, hbt⟩ := H6.out k hk6
                subst hbe
                obtain ⟨d0, d1⟩ := hbt.keep (by rw [add_block]; exact hb) fun _ hp => q.cell hp
                rw [hk7] at d0 d1
                have hne2 : (T[i].n.toList == N.toList) = false := by rw [eq_texts]; simpa using he
                obtain ⟨y, hy⟩ : ∃ y, y = T[i] := ⟨_, rfl⟩
                rw [← hy] at c0 cc1 d0 d1 hne2 HN
                have hklt : ¬ (R.length : Int) ≤ (k : Int) := by omega
                have hklt2 : (k : Int) < (R.length : Int) := by omega
                clear hat he hat6 hk7 hbt hy
                go_wp2_with fail
                refine wp_region_held_drew (S := (fun W => W.cell? (a.add (i * 2)) = some (.string y.n) ∧ W.cell? ⟨(a.add (i * 2)).block, (a.add (i * 2)).off + 1, none⟩ = some (.string y.val) ∧ W.cell? (b.add (k * 2)) = some (.string y.n) ∧ W.cell? ⟨(b.add (k * 2)).block, (b.add (k * 2)).off + 1, none⟩ = some (.string y.val))) (by kernel_rfl) ⟨c0, cc1, d0, d1⟩ (fun hHeld => ?_)
                refine tkV 0 ?_
                refine tkV 1 ?_
                refine tkV 2 ?_
                refine tkB 3 (.bool false) ?_
                refine tkV 4 ?_
                refine tkV 5 ?_
                refine tkV 6 ?_
                refine tkV 7 ?_
                refine tkV 8 ?_
                refine tkV 9 ?_
                refine tkV 10 ?_
                refine tkV 11 ?_
                refine tkV 12 ?_
                refine tkB 13 (.bool false) ?_
                refine tkB 14 (.bool false) ?_
                refine wpAnyH_done (by kernel_rfl) ?_ _
                go_wp2_with fail
                go_roundw
                case rel => exact ⟨i + 1, k + 1, by omega, by go_num, by go_num, Lib.hid (by rw [HN.out, List.length_append, ← HK.out]; rfl), by omega, q.drew⟩
                case measure => simp [intOf]; omega
            · have h2 : ¬ (i : Int) < (T.length : Int) := by omega
              have hkr : k = R.length := by rw [HK.out, List.take_of_length_le (by omega), ← HR.out]
              subst hkr
              have rG := HG7.out.on q
              clear HK H6 H7
              go_wp2_with fail
              refine (K5.out _ _ rG).mono ?_
              rintro e w9 ⟨v9, rfl, o9, q9⟩
              obtain ⟨A9, c9, e9⟩ := o9.form
              rw [List.length_nil] at e9
              subst e9
              have q9 : Hid (Q wr w9) := Lib.hid q9
              have q : Hid (Q w7 wr) := Lib.hid q
              clear o9 rG HG7 OG OKS OR OT OA
              go_wp2_with fail
              refine (awakeY_any _).mono ?_
              rintro e wz ⟨rfl, qz⟩
              go_wp2_with fail
              go_ret
              exact ⟨rfl, ((hP7.out.trans q.out).trans q9.out).trans qz⟩
  · have hsz2 : ¬ (200 : Int) < (x.size : Int) := by omega
    obtain ⟨N, hN⟩ : ∃ N, N = x := ⟨_, rfl⟩
    rw [← hN] at t1 hsz2 ⊢
    have hNs := t1
    clear hN hsz
    go_wp2_with fail
    refine (K1.out _ _ ra.out).mono ?_
    rintro e w2 ⟨rfl, q2⟩
    have p2 := p1.trans q2
    have ra2 := ra.out.on q2
    by_cases hmx : m = 18446744073709551615
    · have e1 : ((m : Int) == 18446744073709551615) = true := by simp; omega
      clear hmx
      go_wp2_with fail
      refine (awakeY_any _).mono ?_
      rintro e wz ⟨rfl, qz⟩
      go_wp2_with fail
      go_ret
      exact ⟨rfl, p2.trans qz⟩
    · have e1 : ((m : Int) == 18446744073709551615) = false := by simp; omega
      have hw0 : IntKind.u64.wrap ((m : Int) + 1) = ((m + 1 : Nat) : Int) := by rw [IntKind.wrap_u64]; omega
      have hsb : m + 1 < 18446744073709551616 := by omega
      have HNX0 : itN (A ++ [⟨m + 1, N, ⟨#[]⟩, true⟩]) = restI (itN A) N := itN_rest (fun x hx => by have := HLE.out x hx; omega) N
      obtain ⟨s, hs⟩ : ∃ s : Nat, s = m + 1 := ⟨_, rfl⟩
      rw [← hs] at hw0 HNX0 hsb
      have hw1 : IntKind.u64.wrap ((m : Int) + 1) = (s : Int) := hw0
      obtain ⟨A1, c1, ea, -, -, -, h1⟩ := id ra2
      subst ea
      have H1 := Lib.hid h1
      have RA := Lib.hid ra2
      have HP := Lib.hid p2
      have okN : ∀ z ∈ A ++ [⟨s, N, ⟨#[]⟩, true⟩], okW z := fun z hz => by
        rcases List.mem_append.1 hz with h | h
        · exact okA z h
        · rw [List.mem_singleton.1 h]
          exact ⟨hsb, hNs, by show (0 : Nat) ≤ _; omega, trivial⟩
      have OKS := Lib.hid okN
      have K3 := Lib.hid (fun (y : World) (u : Value) (h : Ntes y y.heap.size u (A ++ [⟨s, N, ⟨#[]⟩, true⟩])) => itemsN_any (A ++ [⟨s, N, ⟨#[]⟩, true⟩]) u y (by simp; omega) h)
      have K4 := Lib.hid (fun (y : World) (u : Value) (h : Ntes y y.heap.size u A) => itemsN_any A u y (by omega) h)
      have K5 := Lib.hid (fun (y : World) (u : Value) (h : Ntes y y.heap.size u (A.map goneT)) => itemsN_any (A.map goneT) u y (by rw [List.length_map]; omega) h)
      rw [itN_goneT] at K5
      have OR := Lib.hid (itN_okI okN)
      have OT := Lib.hid (itN_okI okA)
      rw [HNX0] at K3 OR
      obtain ⟨T, hT⟩ : ∃ T, T = itN A := ⟨_, rfl⟩
      have lT := itN_le A
      rw [← hT] at K3 K4 OR OT lT
      obtain ⟨R, hR⟩ : ∃ R, R = restI T N := ⟨_, rfl⟩
      rw [← hR] at K3 OR
      have HR := Lib.hid hR
      clear hT hR HNX0 hw0 hs okN hsb
      clear h1 ra2 hmx
      go_wp2_with fail
      go_loopw [6, 7] (fun G J wr => ∃ i : Nat, i ≤ A.length ∧ J = .int .i64 i ∧ OwnW w2.heap.size wr G ((A.take i).map goneT) ∧ Q w2 wr) (fun _ J _ => A.length - (intOf J).toNat)
      case atStart => exact ⟨0, Nat.zero_le _, rfl, OwnW.nil _ _, Q.refl _⟩
      case round =>
        obtain ⟨i, hil, rfl, hown, hbel⟩ := hrel
        by_cases hlt : i < A.length
        · obtain ⟨a, hae, ha, hat⟩ := H1.out i hlt
          subst hae
          obtain ⟨c0, cc1, c2, c3⟩ := hat.keep (by rw [add_block]; exact ha) fun _ hp => hbel.cell hp
          have HAT : Hid (∀ x, Q w2 x → AtW x (a.add (i * 4)) A[i]) := Lib.hid fun x qx => hat.keep (by rw [add_block]; exact ha) fun p hp => qx.cell hp
          have HW := Lib.hid (goneT_take A i hlt)
          have hlen : ((A.take i).map goneT).length ≤ 4000000 := by rw [List.length_map, List.length_take]; omega
          obtain ⟨y, hy⟩ : ∃ y, y = A[i] := ⟨_, rfl⟩
          rw [← hy] at c0 cc1 HAT HW
          clear hy hat c2 c3
          have hilt : (i : Int) < (A.length : Int) := by omega
          have KS : Hid (∀ x, Q w2 x → (fun W => W.cell? (a.add (i * 4)) = some (.int .u64 (y.st : Nat)) ∧ W.cell? ⟨(a.add (i * 4)).block, (a.add (i * 4)).off + 1, none⟩ = some (.string y.n)) x) := Lib.hid fun x qx => ⟨(HAT.out x qx).1, (HAT.out x qx).2.1⟩
          go_wp2_with fail
          refine wp_region_held_drew (S := (fun W => W.cell? (a.add (i * 4)) = some (.int .u64 (y.st : Nat)) ∧ W.cell? ⟨(a.add (i * 4)).block, (a.add (i * 4)).off + 1, none⟩ = some (.string y.n))) (by kernel_rfl) ⟨c0, cc1⟩ (fun hHeld => ?_)
          refine tkV 0 ?_
          refine tkV 1 ?_
          refine tkV 2 ?_
          refine tkV 3 ?_
          refine tkV 4 ?_
          refine tkV 5 ?_
          refine tkV 6 ?_
          refine tkV 7 ?_
          refine tkV 8 ?_
          refine tkV 9 ?_
          refine tkV 10 ?_
          refine tkV 11 ?_
          refine tkV 12 ?_
          refine tkV 13 ?_
          refine aR [14] ?_
          refine AllReadyH.cons (o := _) rfl (fun K hK => ?_) AllReadyH.nil
          go_simp
          have q3 := hbel.drew.alloc (.cells (ncl (goneT y)).toArray 39)
          have own2 := (hown.on ((Q.refl wr).drew)).on ((Q.refl _).alloc (.cells (ncl (goneT y)).toArray 39))
          refine hK.out _ _ (KS.out _ q3) (fun hHeld2 => ?_)
          clear hK K
          refine pg ?_
          refine aR [15] ?_
          refine AllReadyH.cons (o := _) rfl (fun K hK => ?_) AllReadyH.nil
          rw [if_pos (by rfl)]
          refine wp_snoc_nte _ _ _ 22 Try.underlying22 rfl w2.heap.size _ _ _ (goneT y) rfl rfl (cells_onente _ (goneT y) 39) own2 ?hb ?hl ?_
          case hb => exact q3.size
          case hl => exact hlen
          intro v8 w8 o8 g8
          have q8 : Q w2 w8 := Below.grown q3 g8 q3.size (fun k hk => (World.ownsRow.lt own2 k hk).1)
          have o8 : OwnW w2.heap.size w8 v8 ((A.take (i + 1)).map goneT) := by rw [HW.out]; exact o8
          refine hK.out _ _ (KS.out _ q8) (fun hHeld3 => ?_)
          clear hK K
          refine pg ?_
          refine tkV 16 ?_
          refine wpAnyH_done (by kernel_rfl) ?_ _
          go_wp2_with fail
          go_roundw
          case rel => exact ⟨i + 1, by omega, by go_num, o8, q8⟩
          case measure => simp [intOf]; omega
        · have h2 : ¬ (i : Int) < (A.length : Int) := by omega
          rw [List.take_of_length_le (by omega)] at hown
          have RG := Lib.hid (OwnW.read hown OG.out)
          have RA2 := Lib.hid (RA.out.on hbel)
          obtain ⟨A8, c8, e8⟩ := RG.out.form
          rw [List.length_map] at e8
          subst e8
          have own0 := noneN_made wr
          have qn := (Q.refl wr).alloc (.cells #[] 39)
          have r4 := RA2.out.on qn
          have hP2 := Lib.hid (HP.out.trans hbel)
          clear hown H1
          go_wp2_with (at_builtin; first
            | (refine wpList_append_nte _ rfl _ _ 22 Try.underlying22 rfl wr.heap.size _ (.slice (some ⟨wr.heap.size, 0, none⟩) 0 0) [] A rfl rfl own0 r4 ?hb ?hl ?_; (case hb => simp); (case hl => simp; omega); intro v4 w4 o4 g4; have q4 : Q wr w4 := Below.grown qn g4 qn.size (fun k hk => (World.ownsRow.lt own0 k hk).1); clear own0 r4 g4)
            | (have own5 := OwnW.on o4 ((Q.refl w4).alloc (.cells (ncl ⟨s, N, ⟨#[]⟩, true⟩).toArray 39)); have qm := q4.alloc (.cells (ncl ⟨s, N, ⟨#[]⟩, true⟩).toArray 39); refine wpList_snoc_nte _ rfl _ _ 22 22 Try.underlying22 rfl wr.heap.size _ _ A ⟨s, N, ⟨#[]⟩, true⟩ rfl rfl (cells_onente w4 ⟨s, N, ⟨#[]⟩, true⟩ 39) own5 ?hb ?hl ?_; (case hb => exact qm.size); (case hl => omega); intro v5 w5 o5 g5; have q5 : Q wr w5 := Below.grown qm g5 qm.size (fun k hk => (World.ownsRow.lt own5 k hk).1); clear own5 g5 o4 q4 qm))
          have rN := OwnW.read o5 OKS.out
          have rA6 := RA2.out.on q5
          have hP5 := Lib.hid (hP2.out.trans q5)
          have HG5 := Lib.hid (RG.out.on q5)
          clear RA RA2 RG HP hbel qn
          refine (K3.out _ _ rN).mono ?_
          rintro e w6 ⟨v6, rfl, o6, q6⟩
          have HR6 := Lib.hid (OwnI.read o6 OR.out)
          have rA7 := rA6.on q6
          clear rN o5 o6 q5 rA6
          go_wp2_with fail
          refine (K4.out _ _ rA7).mono ?_
          rintro e w7 ⟨v7, rfl, o7, q7⟩
          have HR7 := Lib.hid (HR6.out.on q7)
          have HT7 := Lib.hid (OwnI.read o7 OT.out)
          have HG7 := Lib.hid ((HG5.out.on q6).on q7)
          have hP7 := Lib.hid ((hP5.out.trans q6).trans q7)
          clear HR6 HG5 hP5 q6 q7 o7 rA7
          obtain ⟨A6, c6, e6, -, -, -, h6⟩ := id HR7.out
          subst e6
          obtain ⟨A7, c7, e7, -, -, -, h7⟩ := id HT7.out
          subst e7
          have H6 := Lib.hid h6
          have H7 := Lib.hid h7
          clear h6 h7 HR7 HT7 K1 K3 K4
          go_wp2_with fail
          go_loopw [10, 11] (fun G J wz => ∃ i k : Nat, i ≤ T.length ∧ J = .int .i64 i ∧ G = .int .i64 k ∧ Hid (k = (restI (T.take i) N).length) ∧ k ≤ i ∧ Q w7 wz) (fun _ J _ => T.length - (intOf J).toNat)
          case atStart => exact ⟨0, 0, Nat.zero_le _, rfl, rfl, Lib.hid rfl, Nat.le_refl _, Q.refl _⟩
          case round =>
            obtain ⟨i, k, hil, rfl, rfl, HK, hki, q⟩ := hrel
            by_cases hlt : i < T.length
            · obtain ⟨a, hae, ha, hat⟩ := H7.out i hlt
              subst hae
              obtain ⟨c0, cc1⟩ := hat.keep (by rw [add_block]; exact ha) fun _ hp => q.cell hp
              have hilt : (i : Int) < (T.length : Int) := by omega
              by_cases he : T[i].n = N
              · have HN := Lib.hid (restI_no hlt he)
                rw [he] at c0
                clear hat he cc1
                go_wp2_with fail
                go_roundw
                case rel => exact ⟨i + 1, k, by omega, by go_num, rfl, Lib.hid (by rw [HN.out]; exact HK.out), by omega, q⟩
                case measure => simp [intOf]; omega
              · have HN := Lib.hid (restI_yes hlt he)
                have hat6 := restI_at hlt he
                rw [← HR.out, ← HK.out] at hat6
                obtain ⟨hk6, hk7⟩ := List.getElem?_eq_some_iff.1 hat6
                obtain ⟨b, hbe, hb, hbt⟩ := H6.out k hk6
                subst hbe
                obtain ⟨d0, d1⟩ := hbt.keep (by rw [add_block]; exact hb) fun _ hp => q.cell hp
                rw [hk7] at d0 d1
                have hne2 : (T[i].n.toList == N.toList) = false := by rw [eq_texts]; simpa using he
                obtain ⟨y, hy⟩ : ∃ y, y = T[i] := ⟨_, rfl⟩
                rw [← hy] at c0 cc1 d0 d1 hne2 HN
                have hklt : ¬ (R.length : Int) ≤ (k : Int) := by omega
                have hklt2 : (k : Int) < (R.length : Int) := by omega
                clear hat he hat6 hk7 hbt hy
                go_wp2_with fail
                refine wp_region_held_drew (S := (fun W => W.cell? (a.add (i * 2)) = some (.string y.n) ∧ W.cell? ⟨(a.add (i * 2)).block, (a.add (i * 2)).off + 1, none⟩ = some (.string y.val) ∧ W.cell? (b.add (k * 2)) = some (.string y.n) ∧ W.cell? ⟨(b.add (k * 2)).block, (b.add (k * 2)).off + 1, none⟩ = some (.string y.val))) (by kernel_rfl) ⟨c0, cc1, d0, d1⟩ (fun hHeld => ?_)
                refine tkV 0 ?_
                refine tkV 1 ?_
                refine tkV 2 ?_
                refine tkB 3 (.bool false) ?_
                refine tkV 4 ?_
                refine tkV 5 ?_
                refine tkV 6 ?_
                refine tkV 7 ?_
                refine tkV 8 ?_
                refine tkV 9 ?_
                refine tkV 10 ?_
                refine tkV 11 ?_
                refine tkV 12 ?_
                refine tkB 13 (.bool false) ?_
                refine tkB 14 (.bool false) ?_
                refine wpAnyH_done (by kernel_rfl) ?_ _
                go_wp2_with fail
                go_roundw
                case rel => exact ⟨i + 1, k + 1, by omega, by go_num, by go_num, Lib.hid (by rw [HN.out, List.length_append, ← HK.out]; rfl), by omega, q.drew⟩
                case measure => simp [intOf]; omega
            · have h2 : ¬ (i : Int) < (T.length : Int) := by omega
              have hkr : k = R.length := by rw [HK.out, List.take_of_length_le (by omega), ← HR.out]
              subst hkr
              have rG := HG7.out.on q
              clear HK H6 H7
              go_wp2_with fail
              refine (K5.out _ _ rG).mono ?_
              rintro e w9 ⟨v9, rfl, o9, q9⟩
              obtain ⟨A9, c9, e9⟩ := o9.form
              rw [List.length_nil] at e9
              subst e9
              have q9 : Hid (Q wr w9) := Lib.hid q9
              have q : Hid (Q w7 wr) := Lib.hid q
              clear o9 rG HG7 OG OKS OR OT OA
              go_wp2_with fail
              refine (awakeY_any _).mono ?_
              rintro e wz ⟨rfl, qz⟩
              go_wp2_with fail
              go_ret
              exact ⟨rfl, ((hP7.out.trans q.out).trans q9.out).trans qz⟩

set_option maxRecDepth 100000 in
theorem lifted (os : Os) (started : os.Started) (H : Type) (enc : TypeId × Value → H) :
    ReturnsInHanded {} Try.checked os 10 .any (Rows.changeGoneSpec.pre6 enc Try.prog Try.f10 Rows.changeGoneRow.domain false) (Rows.changeGoneSpec.post enc Try.prog Try.f10 false true false false) := by
  refine returnsInHanded_of_change (C := Try.checked) own started (by kernel_rfl) Try.func10
    (ChangeSpec.witness6 (enc := enc) (C := Try.checked) false ⟨#[], #[.slice none 0 0, .string ByteArray.empty], []⟩ 8 (by kernel_rfl) (by kernel_rfl) (by kernel_rfl) (by kernel_rfl)) ?_
  intro W base args ds gs before hval0 hW hcnd _
  have hval : ∀ (j : Nat) t v, Try.f10.params[j]? = some t → args[j]? = some v → Value.okWide Try.prog W .any base t v := hval0
  have hW' := hW
  obtain ⟨p, q, hA0, hV, rfl, hfz, hnd⟩ := hW
  have hA : DataW.TrodAll enc Try.prog W 0 (fun _ => true) true Try.f10.params.toList args.toList ds p := hA0
  rw [Try.params10] at hA hval
  obtain ⟨v0, vs0, d0, ds0, p0, q0, hargs, rfl, rfl, h0, r0⟩ := trodAll_cons hA
  obtain ⟨v1, vs1, d1, ds1, p1, q1, rfl, rfl, rfl, h1, r1⟩ := trodAll_cons r0
  obtain ⟨rfl, rfl, rfl⟩ := trodAll_nil r1
  obtain rfl : args = #[v0, v1] := by cases args; simp_all
  obtain ⟨rfl, rfl⟩ := trodVars_none hV
  clear hA0 hval0
  simp only [List.append_nil] at hW'
  have hlt : ∀ x ∈ p0 ++ p1, x.block < W.heap.size := fun x hx => by simpa using hW'.lt x (by simpa using hx)
  obtain ⟨l0, t0, z0⟩ := open_ntes (hval 0 22 v0 rfl rfl) h0
  obtain ⟨a1, rfl, -, -, w1⟩ := open_string Try.underlying9 (hval 1 9 v1 rfl rfl) h1
  refine (walk l0 v0 a1 W t0 z0 w1).mono fun e W' ⟨he, bel⟩ => ?_
  subst he
  refine ⟨_, rfl, _, _, _, [], _, [], hW', trodAll_mk1 (shut_bool Try.underlying4 _), (trodAll_cons_mk (Below.trod laid (by kernel_rfl) (of_decide_eq_true (by kernel_rfl)) h0 bel (fun x hx => hlt x (by simp [hx]))) (trodAll_cons_mk (Below.trod laid (by kernel_rfl) (of_decide_eq_true (by kernel_rfl)) h1 bel (fun x hx => hlt x (by simp [hx]))) trodAll_mk0)), rfl, Below.frame bel _, fun h => by cases h⟩

theorem over : Rows.changeGoneRow.holds Try.pinned (OpenSpec.ofChange Rows.changeGoneSpec) :=
  OpenClaim.holds_of_wide 10 Try.f10 rfl rfl rfl rfl rfl rfl rfl ⟨rfl, rfl, rfl, rfl, rfl⟩ rfl rfl rfl rfl rfl (by kernel_rfl) Try.func10 (by kernel_rfl)
    (of_decide_eq_true (by kernel_rfl)) (by unfold Func.isWrapper; first | (rw [if_pos (by decide +kernel)]; kernel_rfl) | (rw [if_neg (by decide +kernel)]; exact ⟨rfl, rfl⟩))
    (fun os started H enc _ => lifted os started H enc)

theorem proved : Rows.ChangeGoneSaid := over
#print axioms proved
end Go.Proofs.Ythlbpjopkaninaa.changeGone
