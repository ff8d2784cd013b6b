/-
  Contract of the statements' Few over uploads. Contracts of the statements' Few and Cut. Rows of buckets whose lists are rows of the call's own, too: one more of them; how a depot that comes in is opened.
-/
import Derived.Test.YtbilnomafloopaaGreatNl
import Derived.Deep.DeepCutAuto
import Derived.Deep.RegionHeld3
import Derived.Test.YtbilnomafloopaaGreatNk
import Derived.Test.YtbilnomafloopaaGreatNh
import Derived.Test.YtbilnomafloopaaGreatNd
import Derived.Deep.Slices
namespace Go.Proofs.YtbilnomafloopaaGreat
set_option maxRecDepth 100000
open Go.ChangeShapes Go.WideShapes Go.ChangeAt Go.RowKit
set_option linter.unusedVariables false
set_option linter.unusedSimpArgs false
set_option maxRecDepth 100000
theorem fewL_next {l : List Upl} {i : Nat} (h : i < l.length) : (l.take (i + 1)).map fewU = (l.take i).map fewU ++ [fewU l[i]] := by
  rw [List.take_succ_eq_append_getElem h, List.map_append]; rfl
theorem oneL_next {L : List Prt} {i : Nat} (h : i < L.length) : (L.take (i + 1)).map oneP = (L.take i).map oneP ++ [oneP L[i]] := by
  rw [List.take_succ_eq_append_getElem h, List.map_append]; rfl
set_option maxHeartbeats 8000000 in
theorem fewUp_row (l : List Upl) (v : Value) (w : World) (hl : l.length ≤ maxLen) (ht : Upls w w.heap.size v l) :
    Calls Tryz.prog 63 #[v] w fun e w' => ∃ v', e = .returned v' ∧ RowF w.heap.size w' v' (fewL l) ∧ Q w w' := by
  unfold maxLen at hl
  have HT := Lib.hid ht
  obtain ⟨A, c, rfl⟩ := ht.form
  obtain ⟨N, hn⟩ : ∃ N, l.length = N := ⟨_, rfl⟩
  rw [hn] at HT hl ⊢
  have HN := Lib.hid hn
  clear ht hn
  go_enter Tryz.func63, Tryz.ntmps63
  go_wp2_with fail
  go_loopw [3, 4, 5, 6] (fun O I _ _ wr => ∃ (i : Nat) (A5 : Option Addr) (n5 c5 : Nat) (M : List Upl), O = .slice A5 n5 c5 ∧ i ≤ N ∧ i ≤ 11 ∧ I = .int .i64 i ∧ M.length = i ∧ RowF w.heap.size wr (.slice A5 n5 c5) M ∧ Q w wr ∧ Hid (M = (l.take i).map fewU)) (fun _ I _ _ _ => 11 - (intOf I).toNat)
  case atStart => exact ⟨0, none, 0, 0, [], rfl, Nat.zero_le _, Nat.zero_le _, rfl, rfl, RowF.nil _ _, Q.refl _, Lib.hid (by simp)⟩
  case round =>
    obtain ⟨i, A5, n5, c5, M, rfl, hil, hi11, rfl, hM, own, q, HM⟩ := hrel
    obtain ⟨wo, hwo⟩ : ∃ x, x = wr := ⟨_, rfl⟩
    subst hwo
    by_cases hlt : i < N
    · by_cases h11 : i < 11
      · have hltL : i < l.length := by have := HN.out; omega
        obtain ⟨a, c', hv, ha, A2, c2, hps, hat⟩ := HT.out.pick i hltL
        injection hv with e1 e2 e3
        subst e1 e3
        have hilt : (i : Int) < (N : Int) := by omega
        have hi11' : (i : Int) < 11 := by omega
        have HX : Hid (M ++ [fewU l[i]] = (l.take (i + 1)).map fewU) := Lib.hid (by rw [HM.out, fewL_next hltL])
        have hok := HT.out.okAll _ (List.getElem_mem hltL)
        have hin := HT.out.okIn _ (List.getElem_mem hltL)
        obtain ⟨x, hx⟩ : ∃ x, x = l[i] := ⟨_, rfl⟩
        rw [← hx] at hat hps HX hok hin
        obtain ⟨xi, key, L⟩ := x
        simp only at hat hps hok hin
        have HPS := Lib.hid hps
        have HIN := Lib.hid hin
        have HAT : Hid (∀ d, Q w d → d.cell? (a.add (i * 3)) = some (.int .u64 (xi : Nat)) ∧ d.cell? ⟨(a.add (i * 3)).block, (a.add (i * 3)).off + 1, none⟩ = some (.string key) ∧ d.cell? ⟨(a.add (i * 3)).block, (a.add (i * 3)).off + 2, none⟩ = some (.slice A2 L.length c2)) := Lib.hid hat
        obtain ⟨n, hn⟩ : ∃ n, L.length = n := ⟨_, rfl⟩
        rw [hn] at HAT HPS
        have HNL := Lib.hid hn
        have hkey : key.size ≤ maxLen := hok.2.1
        have hid : xi < 18446744073709551616 := hok.1
        have hnm : n ≤ maxLen := by rw [← hn]; exact hok.2.2
        unfold maxLen at hnm
        have K := Lib.hid fun d => fewS_any key d hkey
        have HOKX := Lib.hid hok
        clear hat hps hin hx e2 hn hok
        have KF : Hid (∀ b, Q wo b → (fun W => W.cell? (a.add (i * 3)) = some (.int .u64 (xi : Nat)) ∧ W.cell? ⟨(a.add (i * 3)).block, (a.add (i * 3)).off + 1, none⟩ = some (.string key) ∧ Q wo W) b) := Lib.hid fun b qb => ⟨(HAT.out b (q.trans qb)).1, (HAT.out b (q.trans qb)).2.1, qb⟩
        obtain ⟨key', hk'⟩ : ∃ k, k = fewS key := ⟨_, rfl⟩
        rw [← hk'] at K
        have HK' := Lib.hid hk'
        clear hk'
        have K0 := K
        clear K
        go_upto_region 5 with fail
        go_cut [5] from 17 to 28 (fun U wz => U = .pointer (some ⟨wo.heap.size, 0, none⟩) ∧ Bx wz wo.heap.size 66 #[.int .u64 (xi : Nat), .string key', .slice none 0 0] ∧ Q wo wz)
        case first =>
          refine wp_region_held_drew (S := (fun W => W.cell? (a.add (i * 3)) = some (.int .u64 (xi : Nat)) ∧ W.cell? ⟨(a.add (i * 3)).block, (a.add (i * 3)).off + 1, none⟩ = some (.string key) ∧ Q wo W)) (by kernel_rfl) (KF.out _ (Q.refl wo).drew) (fun hHeld => ?_)
          refine wpAnyH_take (i := 0) (oi := _) (v := ?_) rfl (by kernel_rfl) (by kernel_rfl) (by kernel_rfl) (fun _ _ _ h => h) (Or.inl ⟨by rfl, ?_⟩) (by assumption) ?_
          rotate_left
          · (intro wx hSw; (try dsimp only at hSw); go_simp; (try with_reducible rfl))
          (try simp only [Act.put, PS])
          refine wpAnyH_take (i := 1) (oi := _) (v := ?_) rfl (by kernel_rfl) (by kernel_rfl) (by kernel_rfl) (fun _ _ _ h => h) (Or.inl ⟨by rfl, ?_⟩) (by assumption) ?_
          rotate_left
          · (intro wx hSw; (try dsimp only at hSw); go_simp; (try with_reducible rfl))
          (try simp only [Act.put, PS])
          refine wpAnyH_take (i := 2) (oi := _) (v := ?_) rfl (by kernel_rfl) (by kernel_rfl) (by kernel_rfl) (fun _ _ _ h => h) (Or.inl ⟨by rfl, ?_⟩) (by assumption) ?_
          rotate_left
          · (intro wx hSw; (try dsimp only at hSw); go_simp; (try with_reducible rfl))
          (try simp only [Act.put, PS])
          refine wpAnyH_take (i := 3) (oi := _) (v := ?_) rfl (by kernel_rfl) (by kernel_rfl) (by kernel_rfl) (fun _ _ _ h => h) (Or.inl ⟨by rfl, ?_⟩) (by assumption) ?_
          rotate_left
          · (intro wx hSw; (try dsimp only at hSw); go_simp; (try with_reducible rfl))
          (try simp only [Act.put, PS])
          refine wpAnyH_take (i := 4) (oi := _) (v := ?_) rfl (by kernel_rfl) (by kernel_rfl) (by kernel_rfl) (fun _ _ _ h => h) (Or.inl ⟨by rfl, ?_⟩) (by assumption) ?_
          rotate_left
          · (intro wx hSw; (try dsimp only at hSw); go_simp; (try with_reducible rfl))
          (try simp only [Act.put, PS])
          refine wpAnyH_take (i := 5) (oi := _) (v := ?_) rfl (by kernel_rfl) (by kernel_rfl) (by kernel_rfl) (fun _ _ _ h => h) (Or.inl ⟨by rfl, ?_⟩) (by assumption) ?_
          rotate_left
          · (intro wx hSw; (try dsimp only at hSw); go_simp; (try with_reducible rfl))
          (try simp only [Act.put, PS])
          refine wpAnyH_take (i := 6) (oi := _) (v := ?_) rfl (by kernel_rfl) (by kernel_rfl) (by kernel_rfl) (fun _ _ _ h => h) (Or.inl ⟨by rfl, ?_⟩) (by assumption) ?_
          rotate_left
          · (intro wx hSw; (try dsimp only at hSw); go_simp; (try with_reducible rfl))
          (try simp only [Act.put, PS])
          refine wpAnyH_take (i := 7) (oi := _) (v := ?_) rfl (by kernel_rfl) (by kernel_rfl) (by kernel_rfl) (fun _ _ _ h => h) (Or.inl ⟨by rfl, ?_⟩) (by assumption) ?_
          rotate_left
          · (intro wx hSw; (try dsimp only at hSw); go_simp; (try with_reducible rfl))
          (try simp only [Act.put, PS])
          refine wpAnyH_take (i := 8) (oi := _) (v := ?_) rfl (by kernel_rfl) (by kernel_rfl) (by kernel_rfl) (fun _ _ _ h => h) (Or.inl ⟨by rfl, ?_⟩) (by assumption) ?_
          rotate_left
          · (intro wx hSw; (try dsimp only at hSw); go_simp; (try with_reducible rfl))
          (try simp only [Act.put, PS])
          refine wpAnyH_take (i := 9) (oi := _) (v := ?_) rfl (by kernel_rfl) (by kernel_rfl) (by kernel_rfl) (fun _ _ _ h => h) (Or.inl ⟨by rfl, ?_⟩) (by assumption) ?_
          rotate_left
          · (intro wx hSw; (try dsimp only at hSw); go_simp; (try with_reducible rfl))
          (try simp only [Act.put, PS])
          refine wpAnyH_ready (rs := [10, 12]) (by kernel_rfl) (by simp) ?_
          refine AllReadyH.cons (o := _) rfl (fun K hK => ?_) (AllReadyH.cons (o := _) rfl (fun K hK => ?_) AllReadyH.nil)
          · go_simp
            go_at_call 48
            refine (K0.out _).mono ?_
            rintro e w1 ⟨rfl, rfl⟩
            refine hK.out _ _ (KF.out _ (Q.refl wo).drew) (fun hHeld => ?_)
            clear hK K
            (try simp only [Act.put, PS])
            refine wpAnyH_take (i := 11) (oi := _) (v := ?_) rfl (by kernel_rfl) (by kernel_rfl) (by kernel_rfl) (fun _ _ _ h => h) (Or.inl ⟨by rfl, ?_⟩) (by assumption) ?_
            rotate_left
            · (intro wx hSw; (try dsimp only at hSw); go_simp; (try with_reducible rfl))
            (try simp only [Act.put, PS])
            refine wpAnyH_ready (rs := [12]) (by kernel_rfl) (by simp) ?_
            refine AllReadyH.cons (o := _) rfl (fun K hK => ?_) AllReadyH.nil
            go_simp
            refine hK.out _ _ (KF.out _ ((Q.refl wo).alloc _).drew) (fun hHeld => ?_)
            clear hK K
            (try simp only [Act.put, PS])
            refine wpAnyH_ready (rs := [13]) (by kernel_rfl) (by simp) ?_
            refine AllReadyH.cons (o := _) rfl (fun K hK => ?_) AllReadyH.nil
            go_simp
            refine hK.out _ _ (KF.out _ ((Q.refl wo).alloc _).drew) (fun hHeld => ?_)
            clear hK K
            (try simp only [Act.put, PS])
            refine wpAnyH_done (by kernel_rfl) ?_ _
            go_wp2_with fail
            go_meet
            exact ⟨rfl, (Bx.new wo _ _).on (Q.refl _).drew, ((Q.refl wo).alloc _).drew⟩
          · go_simp
            refine hK.out _ _ (KF.out _ ((Q.refl wo).alloc _).drew) (fun hHeld => ?_)
            clear hK K
            (try simp only [Act.put, PS])
            refine wpAnyH_ready (rs := [10]) (by kernel_rfl) (by simp) ?_
            refine AllReadyH.cons (o := _) rfl (fun K hK => ?_) AllReadyH.nil
            go_simp
            go_at_call 48
            refine (K0.out _).mono ?_
            rintro e w1 ⟨rfl, rfl⟩
            refine hK.out _ _ (KF.out _ ((Q.refl wo).alloc _).drew) (fun hHeld => ?_)
            clear hK K
            (try simp only [Act.put, PS])
            refine wpAnyH_take (i := 11) (oi := _) (v := ?_) rfl (by kernel_rfl) (by kernel_rfl) (by kernel_rfl) (fun _ _ _ h => h) (Or.inl ⟨by rfl, ?_⟩) (by assumption) ?_
            rotate_left
            · (intro wx hSw; (try dsimp only at hSw); go_simp; (try with_reducible rfl))
            (try simp only [Act.put, PS])
            refine wpAnyH_ready (rs := [13]) (by kernel_rfl) (by simp) ?_
            refine AllReadyH.cons (o := _) rfl (fun K hK => ?_) AllReadyH.nil
            go_simp
            refine hK.out _ _ (KF.out _ ((Q.refl wo).alloc _).drew) (fun hHeld => ?_)
            clear hK K
            (try simp only [Act.put, PS])
            refine wpAnyH_done (by kernel_rfl) ?_ _
            go_wp2_with fail
            go_meet
            exact ⟨rfl, (Bx.new wo _ _).on (Q.refl _).drew, ((Q.refl wo).alloc _).drew⟩
        case rest =>
          rename_i U wz
          obtain ⟨rfl, bx, qz⟩ := hcut
          clear KF
          go_wp2_with fail
          go_loopw [6] (fun J wr => ∃ (k : Nat) (A6 : Option Addr) (n6 c6 : Nat) (Y : List Prt), k ≤ n ∧ k ≤ 31 ∧ J = .int .i64 k ∧ Y.length = k ∧ Bx wr wo.heap.size 66 #[.int .u64 (xi : Nat), .string key', .slice A6 n6 c6] ∧ OwnP (wo.heap.size + 1) wr (.slice A6 n6 c6) Y ∧ Q wo wr ∧ Hid (Y = (L.take k).map oneP)) (fun J _ => 31 - (intOf J).toNat)
          case atStart => exact ⟨0, none, 0, 0, [], Nat.zero_le _, Nat.zero_le _, rfl, rfl, bx, OwnP.nil _ _, qz, Lib.hid (by simp)⟩
          case round =>
            obtain ⟨k, A6, n6, c6, Y, hkn, hk31, rfl, hY, bx, own2, qy, HY⟩ := hrel
            have x2 := bx.cell 2
            simp only [List.getElem?_toArray, List.getElem?_cons_zero, List.getElem?_cons_succ] at x2
            have u2 := (HAT.out _ (q.trans qy)).2.2
            by_cases hkl : k < n
            · by_cases hk3 : k < 31
              · have hkL : k < L.length := by have := HNL.out; omega
                obtain ⟨b, c3, hv3, hb, hokp, hbt⟩ := HPS.out.pick k hkL
                injection hv3 with f1 f2 f3
                subst f1 f3
                have hklt : (k : Int) < (n : Int) := by omega
                have hk3' : (k : Int) < 31 := by omega
                have HY2 : Hid (Y ++ [oneP L[k]] = (L.take (k + 1)).map oneP) := Lib.hid (by rw [HY.out, oneL_next hkL])
                obtain ⟨y, hy⟩ : ∃ y, y = L[k] := ⟨_, rfl⟩
                rw [← hy] at hbt HY2 hokp
                obtain ⟨yn, yd⟩ := y
                have ON1 := Lib.hid fun d => onePt_any ⟨yn, yd⟩ d hokp.2.2
                rw [prt, prt] at ON1
                simp only at ON1
                obtain ⟨e1n, e1d, he1⟩ : ∃ a b, oneP ⟨yn, yd⟩ = ⟨a, b⟩ := ⟨_, _, rfl⟩
                rw [he1] at ON1 HY2
                simp only at ON1
                have KF : Hid (∀ d, Bx d wo.heap.size 66 #[.int .u64 (xi : Nat), .string key', .slice A6 n6 c6] → Q wo d → (fun W => Bx W wo.heap.size 66 #[.int .u64 (xi : Nat), .string key', .slice A6 n6 c6] ∧ W.cell? ⟨(a.add (i * 3)).block, (a.add (i * 3)).off + 2, none⟩ = some (.slice (some b) n c2) ∧ W.cell? (b.add (k * 2)) = some (.int .i64 yn) ∧ W.cell? ⟨(b.add (k * 2)).block, (b.add (k * 2)).off + 1, none⟩ = some (.string yd) ∧ Q wo W) d) := Lib.hid fun d hd qd => ⟨hd, (HAT.out _ (q.trans qd)).2.2, (hbt _ (q.trans qd)).1, (hbt _ (q.trans qd)).2, qd⟩
                clear hbt hy f2 hokp he1
                have bx9 := bx.on (Q.refl wr).drew
                have own9 := own2.on (Q.refl wr).drew
                have q9 := qy.drew
                go_wp2_with fail
                refine till_begin (F := (fun W => Bx W wo.heap.size 66 #[.int .u64 (xi : Nat), .string key', .slice A6 n6 c6] ∧ W.cell? ⟨(a.add (i * 3)).block, (a.add (i * 3)).off + 2, none⟩ = some (.slice (some b) n c2) ∧ W.cell? (b.add (k * 2)) = some (.int .i64 yn) ∧ W.cell? ⟨(b.add (k * 2)).block, (b.add (k * 2)).off + 1, none⟩ = some (.string yd) ∧ Q wo W)) (st := 14) (by kernel_rfl) (KF.out _ bx9 q9) (fun hTill => ?_)
                refine till_take (i := 0) (o := _) (v := ?_) rfl (by kernel_rfl) (by kernel_rfl) (by kernel_rfl) (by kernel_rfl) (by rfl) (fun _ _ _ h => h) (Or.inl ⟨by rfl, ?_⟩) (by assumption) ?_
                rotate_left
                · (intro wx hSw; skip; go_simp; (try with_reducible rfl))
                (try simp only [Act.put, PS])
                refine till_take (i := 1) (o := _) (v := ?_) rfl (by kernel_rfl) (by kernel_rfl) (by kernel_rfl) (by kernel_rfl) (by rfl) (fun _ _ _ h => h) (Or.inl ⟨by rfl, ?_⟩) (by assumption) ?_
                rotate_left
                · (intro wx hSw; have hz := hSw.1.cell 2; simp only [List.getElem?_toArray, List.getElem?_cons_zero, List.getElem?_cons_succ] at hz; have hz1 := hSw.2.1; have hz2 := hSw.2.2.1; have hz3 := hSw.2.2.2.1; go_simp; (try with_reducible rfl))
                (try simp only [Act.put, PS])
                refine till_take (i := 2) (o := _) (v := ?_) rfl (by kernel_rfl) (by kernel_rfl) (by kernel_rfl) (by kernel_rfl) (by rfl) (fun _ _ _ h => h) (Or.inl ⟨by rfl, ?_⟩) (by assumption) ?_
                rotate_left
                · (intro wx hSw; skip; go_simp; (try with_reducible rfl))
                (try simp only [Act.put, PS])
                refine till_take (i := 3) (o := _) (v := ?_) rfl (by kernel_rfl) (by kernel_rfl) (by kernel_rfl) (by kernel_rfl) (by rfl) (fun _ _ _ h => h) (Or.inl ⟨by rfl, ?_⟩) (by assumption) ?_
                rotate_left
                · (intro wx hSw; skip; go_simp; (try with_reducible rfl))
                (try simp only [Act.put, PS])
                refine till_take (i := 4) (o := _) (v := ?_) rfl (by kernel_rfl) (by kernel_rfl) (by kernel_rfl) (by kernel_rfl) (by rfl) (fun _ _ _ h => h) (Or.inl ⟨by rfl, ?_⟩) (by assumption) ?_
                rotate_left
                · (intro wx hSw; skip; go_simp; (try with_reducible rfl))
                (try simp only [Act.put, PS])
                refine till_take (i := 5) (o := _) (v := ?_) rfl (by kernel_rfl) (by kernel_rfl) (by kernel_rfl) (by kernel_rfl) (by rfl) (fun _ _ _ h => h) (Or.inl ⟨by rfl, ?_⟩) (by assumption) ?_
                rotate_left
                · (intro wx hSw; skip; go_simp; (try with_reducible rfl))
                (try simp only [Act.put, PS])
                refine till_take (i := 6) (o := _) (v := ?_) rfl (by kernel_rfl) (by kernel_rfl) (by kernel_rfl) (by kernel_rfl) (by rfl) (fun _ _ _ h => h) (Or.inl ⟨by rfl, ?_⟩) (by assumption) ?_
                rotate_left
                · (intro wx hSw; have hz := hSw.1.cell 2; simp only [List.getElem?_toArray, List.getElem?_cons_zero, List.getElem?_cons_succ] at hz; have hz1 := hSw.2.1; have hz2 := hSw.2.2.1; have hz3 := hSw.2.2.2.1; go_simp; (try with_reducible rfl))
                (try simp only [Act.put, PS])
                refine till_take (i := 7) (o := _) (v := ?_) rfl (by kernel_rfl) (by kernel_rfl) (by kernel_rfl) (by kernel_rfl) (by rfl) (fun _ _ _ h => h) (Or.inl ⟨by rfl, ?_⟩) (by assumption) ?_
                rotate_left
                · (intro wx hSw; skip; go_simp; (try with_reducible rfl))
                (try simp only [Act.put, PS])
                refine till_take (i := 8) (o := _) (v := ?_) rfl (by kernel_rfl) (by kernel_rfl) (by kernel_rfl) (by kernel_rfl) (by rfl) (fun _ _ _ h => h) (Or.inl ⟨by rfl, ?_⟩) (by assumption) ?_
                rotate_left
                · (intro wx hSw; skip; go_simp; (try with_reducible rfl))
                (try simp only [Act.put, PS])
                refine till_take (i := 9) (o := _) (v := ?_) rfl (by kernel_rfl) (by kernel_rfl) (by kernel_rfl) (by kernel_rfl) (by rfl) (fun _ _ _ h => h) (Or.inl ⟨by rfl, ?_⟩) (by assumption) ?_
                rotate_left
                · (intro wx hSw; have hz := hSw.1.cell 2; simp only [List.getElem?_toArray, List.getElem?_cons_zero, List.getElem?_cons_succ] at hz; have hz1 := hSw.2.1; have hz2 := hSw.2.2.1; have hz3 := hSw.2.2.2.1; go_simp; (try with_reducible rfl))
                (try simp only [Act.put, PS])
                refine till_next (i := 10) (o := _) (by kernel_rfl) rfl (fun K hK => ?_)
                go_simp
                go_at_call 98
                refine (ON1.out _).mono ?_
                rintro e w4 ⟨rfl, q4⟩
                have bx10 := bx9.on q4
                have own10 := own9.on q4
                have q10 := q9.trans q4
                refine hK.out _ _ (KF.out _ bx10 q10) (fun hTill => ?_)
                clear hK K
                (try simp only [Act.put, PS])
                refine till_next (i := 11) (o := _) (by kernel_rfl) rfl (fun K hK => ?_)
                go_simp
                have q11 := q10.alloc (.cells #[.int .i64 e1n, .string e1d] 88)
                have bx11 := bx10.alloc (.cells #[.int .i64 e1n, .string e1d] 88)
                have own11 := own10.on ((Q.refl _).alloc (.cells #[.int .i64 e1n, .string e1d] 88))
                refine hK.out _ _ (KF.out _ bx11 q11) (fun hTill => ?_)
                clear hK K
                (try simp only [Act.put, PS])
                refine till_next (i := 12) (o := _) (by kernel_rfl) rfl (fun K hK => ?_)
                rw [if_pos (by rfl)]
                refine wp_snoc_part _ _ _ 64 Tryz.underlying64 rfl (wo.heap.size + 1) _ _ _ ⟨e1n, e1d⟩ rfl rfl (cells_onepart _ ⟨e1n, e1d⟩ _) own11 ?hb ?hl ?_
                case hb => have h5 := bx10.lt; simp; omega
                case hl => omega
                intro v8 w8 o8 g8
                have q12 : Q wo w8 := q11.grown g8 (by have h5 := bx10.lt; simp; omega) (fun k hk => Nat.le_of_succ_le (World.ownsRow.lt own11 k hk).1)
                have bx12 := bx11.same (g8.block _ bx11.lt (fun e => by have := (World.ownsRow.lt own11 _ e.symm).1; omega))
                obtain ⟨A8, n8, c8, rfl⟩ : ∃ A n c, v8 = .slice A n c := by obtain ⟨A, c, e⟩ := o8.form; exact ⟨A, _, c, e⟩
                refine hK.out _ _ (KF.out _ bx12 q12) (fun hTill => ?_)
                clear hK K
                (try simp only [Act.put, PS])
                have z2 := bx12.cell 2
                have zf := bx12.frozen 2
                simp only [List.getElem?_toArray, List.getElem?_cons_zero, List.getElem?_cons_succ] at z2
                refine till_take (i := 13) (o := _) (v := ?_) rfl (by kernel_rfl) (by kernel_rfl) (by kernel_rfl) (by kernel_rfl) (by rfl) (fun _ _ _ h => h) (Or.inl ⟨by rfl, ?_⟩) (by assumption) ?_
                rotate_left
                · (intro wx hSw; skip; go_simp; (try with_reducible rfl))
                (try simp only [Act.put, PS])
                refine till_last (i := 14) (o := _) (by kernel_rfl) rfl (by rfl) (fun K hK => ?_)
                go_simp
                refine hK.out _ _ ?_
                clear hK K
                (try simp only [Act.put, PS])
                refine till_done (by kernel_rfl) ?_ _
                have bxE := bx12.set 2 (.slice A8 n8 c8)
                have oE : OwnP (wo.heap.size + 1) _ _ _ := ownsRow_set (b := wo.heap.size) (i := 2) (u := .slice A8 n8 c8) o8 (by omega)
                have qE := Q.set q12 (Nat.le_refl _) (k := 2) (.slice A8 n8 c8)
                generalize w8.setCell ⟨wo.heap.size, 2, none⟩ (.slice A8 n8 c8) = wE at bxE oE qE ⊢
                clear KF bx9 own9 q9 bx10 own10 q10 bx11 own11 q11 o8 g8 q12 bx12 z2 zf
                go_wp2_with fail
                go_roundw
                case rel => exact ⟨k + 1, _, _, _, _, by omega, by omega, by go_num, by simp [hY], bxE, oE, qE, HY2⟩
                case measure => simp [intOf]; omega
              · have hk3' : ¬ (k : Int) < 31 := by omega
                have hklt : (k : Int) < (n : Int) := by omega
                have HYe : Hid (Y = (L.take 31).map oneP) := Lib.hid (by rw [HY.out, show k = 31 by omega])
                have f0 := bx.cell 0
                have f1 := bx.cell 1
                simp only [List.getElem?_toArray, List.getElem?_cons_zero, List.getElem?_cons_succ] at f0 f1
                have ownq := own.on qy
                have HP1 : Hid (∀ d, Q wr d → F1 w.heap.size d ((⟨xi, key', Y⟩ : Upl), .slice A6 n6 c6)) := Lib.hid fun d qd => ⟨⟨hid, by have := HK'.out; rw [this]; have := fewS_size key; unfold maxLen; show (fewS key).size ≤ _; omega, by unfold maxLen; show Y.length ≤ _; omega⟩, (fun p hp => by rw [HYe.out] at hp; obtain ⟨z, hz, rfl⟩ := List.mem_map.1 hp; exact okP_one (HIN.out _ (List.mem_of_mem_take hz))), OwnP.low (own2.on qd) (by have := q.size; omega)⟩
                have ownb := ownq.on ((Q.refl wr).alloc (.cells #[.int .u64 (xi : Nat), .string key', .slice A6 n6 c6] 66))
                go_wp2_with (at_builtin; refine wpList_snoc_rowF _ rfl _ _ 58 Tryz.underlying58 rfl w.heap.size wr.heap.size _ M (⟨xi, key', Y⟩, .slice A6 n6 c6) rfl rfl (cells_oneupl wr (⟨xi, key', Y⟩, .slice A6 n6 c6) 66) ownb (HP1.out _ ((Q.refl wr).alloc _)) ?hb ?hl ?_; (case hb => have := (q.trans qy).size; simp; omega); (case hl => omega); intro v6 w6 o6 g6)
                obtain ⟨A7, c7, rfl⟩ := o6.form
                have q7 : Q w w6 := Below.trans (((q.trans qy)).alloc _) g6
                have HXe : Hid (M ++ [⟨xi, key', Y⟩] = (l.take (i + 1)).map fewU) := Lib.hid (by rw [← HX.out, fewU, HYe.out, HK'.out])
                go_wp2_with fail
                go_roundw
                case rel => exact ⟨i + 1, _, _, _, _, rfl, by omega, by omega, by go_num, by simp [hM], o6, q7, HXe⟩
                case measure => simp [intOf]; omega
            · have hklt : ¬ (k : Int) < (n : Int) := by omega
              have HYe : Hid (Y = (L.take 31).map oneP) := Lib.hid (by have h3 := HNL.out; rw [HY.out, List.take_of_length_le (by omega), List.take_of_length_le (by omega)])
              have f0 := bx.cell 0
              have f1 := bx.cell 1
              simp only [List.getElem?_toArray, List.getElem?_cons_zero, List.getElem?_cons_succ] at f0 f1
              have ownq := own.on qy
              have HP1 : Hid (∀ d, Q wr d → F1 w.heap.size d ((⟨xi, key', Y⟩ : Upl), .slice A6 n6 c6)) := Lib.hid fun d qd => ⟨⟨hid, by have := HK'.out; rw [this]; have := fewS_size key; unfold maxLen; show (fewS key).size ≤ _; omega, by unfold maxLen; show Y.length ≤ _; omega⟩, (fun p hp => by rw [HYe.out] at hp; obtain ⟨z, hz, rfl⟩ := List.mem_map.1 hp; exact okP_one (HIN.out _ (List.mem_of_mem_take hz))), OwnP.low (own2.on qd) (by have := q.size; omega)⟩
              have ownb := ownq.on ((Q.refl wr).alloc (.cells #[.int .u64 (xi : Nat), .string key', .slice A6 n6 c6] 66))
              go_wp2_with (at_builtin; refine wpList_snoc_rowF _ rfl _ _ 58 Tryz.underlying58 rfl w.heap.size wr.heap.size _ M (⟨xi, key', Y⟩, .slice A6 n6 c6) rfl rfl (cells_oneupl wr (⟨xi, key', Y⟩, .slice A6 n6 c6) 66) ownb (HP1.out _ ((Q.refl wr).alloc _)) ?hb ?hl ?_; (case hb => have := (q.trans qy).size; simp; omega); (case hl => omega); intro v6 w6 o6 g6)
              obtain ⟨A7, c7, rfl⟩ := o6.form
              have q7 : Q w w6 := Below.trans (((q.trans qy)).alloc _) g6
              have HXe : Hid (M ++ [⟨xi, key', Y⟩] = (l.take (i + 1)).map fewU) := Lib.hid (by rw [← HX.out, fewU, HYe.out, HK'.out])
              go_wp2_with fail
              go_roundw
              case rel => exact ⟨i + 1, _, _, _, _, rfl, by omega, by omega, by go_num, by simp [hM], o6, q7, HXe⟩
              case measure => simp [intOf]; omega
      · have hn11 : ¬ (i : Int) < 11 := by omega
        have hilt : (i : Int) < (N : Int) := by omega
        have HV : Hid (M = fewL l) := Lib.hid (by rw [HM.out, fewL]; congr 2; omega)
        go_wp2
        go_ret
        exact ⟨_, rfl, by rw [← HV.out]; exact own, q⟩
    · have hilt : ¬ (i : Int) < (N : Int) := by omega
      have HV : Hid (M = fewL l) := Lib.hid (by
        have hN := HN.out
        rw [HM.out, fewL, List.take_of_length_le (by omega), List.take_of_length_le (by omega)])
      go_wp2
      go_ret
      exact ⟨_, rfl, by rw [← HV.out]; exact own, q⟩
end Go.Proofs.YtbilnomafloopaaGreat

namespace Go.Proofs.YtbilnomafloopaaGreat
set_option maxRecDepth 100000
open Go.ChangeShapes Go.WideShapes Go.ChangeAt Go.RowKit Go.Shelf
set_option linter.unusedVariables false
set_option linter.unusedSimpArgs false
def fewB (b : Bkt) : Bkt := ⟨fewS b.name, b.st, fewE b.L, fewL b.U, b.last⟩
theorem fewB_small (b : Bkt) : (fewB b).name.size ≤ 1000 ∧ smE (fewB b).L ∧ smL (fewB b).U := by
  refine ⟨by have := fewS_size b.name; show (fewS b.name).size ≤ 1000; omega, ⟨tiny_small (by have := fewE_len b.L; show (fewE b.L).length ≤ 1000; omega) (fewE_tiny b.L), fun e he => ?_⟩, fewL_sm b.U⟩
  have := (fewE_tiny b.L e he).2.1
  omega
theorem RowF.else {base : Nat} {t : TypeId} {w w' : World} {u : Value} {l : List Upl} {row : Option Nat} (h : RowF base w u l) (h1 : 66 ≠ t) (h2 : 88 ≠ t) (r : OfT t w row) (g : w.grownBy w' row) : RowF base w' u l := by
  obtain ⟨P, e, q, f⟩ := h
  exact ⟨P, e, own_else q h1 r g, fun p hp => ⟨(f p hp).1, (f p hp).2.1, own_else (f p hp).2.2 h2 r g⟩⟩
theorem RowF.low {base b2 : Nat} {w : World} {v : Value} {l : List Upl} (h : RowF base w v l) (k : b2 ≤ base) : RowF b2 w v l := by
  have low : ∀ {t : TypeId} {sz n : Nat} {u : Value} {xs : List Value}, w.ownsRow base t sz u n xs → w.ownsRow b2 t sz u n xs := by
    intro t sz n u xs r
    rcases r.2 with ⟨rfl, h0⟩ | ⟨g, cap, cur, rfl, hb, r2⟩
    · exact ⟨r.1, .inl ⟨rfl, h0⟩⟩
    · exact ⟨r.1, .inr ⟨g, cap, cur, rfl, by omega, r2⟩⟩
  obtain ⟨P, e, r, f⟩ := h
  exact ⟨P, e, low r, fun p hp => ⟨(f p hp).1, (f p hp).2.1, low (f p hp).2.2⟩⟩
/-- A bucket whose lists are rows of the call's own. -/
def OwnB (base : Nat) (w : World) (b : Bkt) (lv uv : Value) : Prop := RowG base w lv b.L ∧ RowF base w uv b.U
theorem OwnB.else {base : Nat} {w w' : World} {b : Bkt} {lv uv : Value} {row : Option Nat} (h : OwnB base w b lv uv) (r : OfT 60 w row) (g : w.grownBy w' row) : OwnB base w' b lv uv :=
  ⟨h.1.else (by decide) (by decide) r g, h.2.else (by decide) (by decide) r g⟩
theorem OwnB.on {base : Nat} {w w' : World} {b : Bkt} {lv uv : Value} (h : OwnB base w b lv uv) (q : Q w w') : OwnB base w' b lv uv := ⟨h.1.on q, h.2.on q⟩
theorem OwnB.low {base b2 : Nat} {w : World} {b : Bkt} {lv uv : Value} (h : OwnB base w b lv uv) (k : b2 ≤ base) : OwnB b2 w b lv uv := ⟨h.1.low k, h.2.low k⟩
theorem OwnB.read {base : Nat} {w : World} {b : Bkt} {lv uv : Value} (h : OwnB base w b lv uv) (hb : base ≤ w.heap.size) : BktV w b lv uv := ⟨h.1.own.ents hb, h.2.read hb⟩
set_option maxHeartbeats 16000000 in
theorem fewB_row (b : Bkt) (lv uv : Value) (w : World) (hn : b.name.size ≤ maxLen) (hl : b.L.length ≤ maxLen) (hu : b.U.length ≤ maxLen) (hv : BktV w b lv uv) :
    Calls Tryz.prog 29 #[bkt b lv uv] w fun e w' => ∃ A c A' c', e = .returned (bkt (fewB b) (.slice A (fewB b).L.length c) (.slice A' (fewB b).U.length c')) ∧ OwnB w.heap.size w' (fewB b) (.slice A (fewB b).L.length c) (.slice A' (fewB b).U.length c') ∧ Q w w' := by
  obtain ⟨A1, c1, rfl⟩ := hv.1.form
  obtain ⟨A2, c2, rfl⟩ := hv.2.form
  have q0 : Q w ((w.alloc (.cells (bcl b (.slice A1 b.L.length c1) (.slice A2 b.U.length c2)) 60)).alloc (.cells (bcl noB (.slice none 0 0) (.slice none 0 0)) 60)) := ((Q.refl w).alloc _).alloc _
  have Z := Lib.hid ((Bx.new w 60 (bcl b (.slice A1 b.L.length c1) (.slice A2 b.U.length c2))).alloc (.cells (bcl noB (.slice none 0 0) (.slice none 0 0)) 60))
  have Y0 := Bx.new (w.alloc (.cells (bcl b (.slice A1 b.L.length c1) (.slice A2 b.U.length c2)) 60)) 60 (bcl noB (.slice none 0 0) (.slice none 0 0))
  simp only [World.size_alloc] at Y0
  have Y := Lib.hid Y0
  have KF : Hid (∀ d, Q ((w.alloc (.cells (bcl b (.slice A1 b.L.length c1) (.slice A2 b.U.length c2)) 60)).alloc (.cells (bcl noB (.slice none 0 0) (.slice none 0 0)) 60)) d → (fun W => Bx W w.heap.size 60 (bcl b (.slice A1 b.L.length c1) (.slice A2 b.U.length c2)) ∧ Q ((w.alloc (.cells (bcl b (.slice A1 b.L.length c1) (.slice A2 b.U.length c2)) 60)).alloc (.cells (bcl noB (.slice none 0 0) (.slice none 0 0)) 60)) W) d) := Lib.hid fun d q => ⟨Z.out.on q, q⟩
  have FS := Lib.hid fun d => fewS_any b.name d hn
  have FE := Lib.hid fun d (q : Q w d) => fewE_row b.L (.slice A1 b.L.length c1) d hl (hv.1.on q)
  have FU := Lib.hid fun d (q : Q w d) => fewUp_row b.U (.slice A2 b.U.length c2) d hu (hv.2.on q)
  have q9 := (Q.refl ((w.alloc (.cells (bcl b (.slice A1 b.L.length c1) (.slice A2 b.U.length c2)) 60)).alloc (.cells (bcl noB (.slice none 0 0) (.slice none 0 0)) 60))).drew
  clear hn hl hu hv Y0
  rw [bkt]
  go_enter Tryz.func29, Tryz.ntmps29
  go_wp2_with fail
  refine till_begin (F := (fun W => Bx W w.heap.size 60 (bcl b (.slice A1 b.L.length c1) (.slice A2 b.U.length c2)) ∧ Q ((w.alloc (.cells (bcl b (.slice A1 b.L.length c1) (.slice A2 b.U.length c2)) 60)).alloc (.cells (bcl noB (.slice none 0 0) (.slice none 0 0)) 60)) W)) (st := 14) (by kernel_rfl) (KF.out _ q9) (fun hTill => ?_)
  refine till_pure (i := 0) (o := _) (v := ?_) rfl (by kernel_rfl) (by kernel_rfl) (by kernel_rfl) (by decide) (fun _ _ _ h => h) (Or.inl ⟨by rfl, ?_⟩) (by first | (intro _; assumption) | (intro e; exact absurd e (by decide))) ?_
  rotate_left
  · (intro wx hSw; go_simp; (try with_reducible rfl))
  (try simp only [Act.put, PS])
  refine till_take (i := 1) (o := _) (v := ?_) rfl (by kernel_rfl) (by kernel_rfl) (by kernel_rfl) (by kernel_rfl) (by rfl) (fun _ _ _ h => h) (Or.inl ⟨by rfl, ?_⟩) (by assumption) ?_
  rotate_left
  · (intro wx hSw; obtain ⟨hz0, hz1, hz2, hz3, hz4⟩ := bx_bkt hSw.1; go_simp; (try with_reducible rfl))
  (try simp only [Act.put, PS])
  refine till_pure (i := 3) (o := _) (v := ?_) rfl (by kernel_rfl) (by kernel_rfl) (by kernel_rfl) (by decide) (fun _ _ _ h => h) (Or.inl ⟨by rfl, ?_⟩) (by first | (intro _; assumption) | (intro e; exact absurd e (by decide))) ?_
  rotate_left
  · (intro wx hSw; go_simp; (try with_reducible rfl))
  (try simp only [Act.put, PS])
  refine till_take (i := 4) (o := _) (v := ?_) rfl (by kernel_rfl) (by kernel_rfl) (by kernel_rfl) (by kernel_rfl) (by rfl) (fun _ _ _ h => h) (Or.inl ⟨by rfl, ?_⟩) (by assumption) ?_
  rotate_left
  · (intro wx hSw; obtain ⟨hz0, hz1, hz2, hz3, hz4⟩ := bx_bkt hSw.1; go_simp; (try with_reducible rfl))
  (try simp only [Act.put, PS])
  refine till_pure (i := 5) (o := _) (v := ?_) rfl (by kernel_rfl) (by kernel_rfl) (by kernel_rfl) (by decide) (fun _ _ _ h => h) (Or.inl ⟨by rfl, ?_⟩) (by first | (intro _; assumption) | (intro e; exact absurd e (by decide))) ?_
  rotate_left
  · (intro wx hSw; go_simp; (try with_reducible rfl))
  (try simp only [Act.put, PS])
  refine till_take (i := 6) (o := _) (v := ?_) rfl (by kernel_rfl) (by kernel_rfl) (by kernel_rfl) (by kernel_rfl) (by rfl) (fun _ _ _ h => h) (Or.inl ⟨by rfl, ?_⟩) (by assumption) ?_
  rotate_left
  · (intro wx hSw; obtain ⟨hz0, hz1, hz2, hz3, hz4⟩ := bx_bkt hSw.1; go_simp; (try with_reducible rfl))
  (try simp only [Act.put, PS])
  refine till_pure (i := 8) (o := _) (v := ?_) rfl (by kernel_rfl) (by kernel_rfl) (by kernel_rfl) (by decide) (fun _ _ _ h => h) (Or.inl ⟨by rfl, ?_⟩) (by first | (intro _; assumption) | (intro e; exact absurd e (by decide))) ?_
  rotate_left
  · (intro wx hSw; go_simp; (try with_reducible rfl))
  (try simp only [Act.put, PS])
  refine till_take (i := 9) (o := _) (v := ?_) rfl (by kernel_rfl) (by kernel_rfl) (by kernel_rfl) (by kernel_rfl) (by rfl) (fun _ _ _ h => h) (Or.inl ⟨by rfl, ?_⟩) (by assumption) ?_
  rotate_left
  · (intro wx hSw; obtain ⟨hz0, hz1, hz2, hz3, hz4⟩ := bx_bkt hSw.1; go_simp; (try with_reducible rfl))
  (try simp only [Act.put, PS])
  refine till_pure (i := 11) (o := _) (v := ?_) rfl (by kernel_rfl) (by kernel_rfl) (by kernel_rfl) (by decide) (fun _ _ _ h => h) (Or.inl ⟨by rfl, ?_⟩) (by first | (intro _; assumption) | (intro e; exact absurd e (by decide))) ?_
  rotate_left
  · (intro wx hSw; go_simp; (try with_reducible rfl))
  (try simp only [Act.put, PS])
  refine till_take (i := 12) (o := _) (v := ?_) rfl (by kernel_rfl) (by kernel_rfl) (by kernel_rfl) (by kernel_rfl) (by rfl) (fun _ _ _ h => h) (Or.inl ⟨by rfl, ?_⟩) (by assumption) ?_
  rotate_left
  · (intro wx hSw; obtain ⟨hz0, hz1, hz2, hz3, hz4⟩ := bx_bkt hSw.1; go_simp; (try with_reducible rfl))
  (try simp only [Act.put, PS])
  refine till_next (i := 2) (o := _) (by kernel_rfl) rfl (fun K hK => ?_)
  go_simp
  go_at_call 48
  refine (FS.out _).mono ?_
  rintro e w1 ⟨rfl, rfl⟩
  refine hK.out _ _ (KF.out _ q9) (fun hTill => ?_)
  clear hK K
  (try simp only [Act.put, PS])
  refine till_next (i := 7) (o := _) (by kernel_rfl) rfl (fun K hK => ?_)
  go_simp
  go_at_call 62
  refine (FE.out _ (q0.trans q9)).mono ?_
  rintro e w2 ⟨v2, rfl, o2, q2⟩
  have e2 := o2.low (q0.trans q9).size
  obtain ⟨A3, c3, rfl⟩ := e2.own.len
  have E2 := Lib.hid e2
  clear o2 e2
  refine hK.out _ _ (KF.out _ (q9.trans q2)) (fun hTill => ?_)
  clear hK K
  (try simp only [Act.put, PS])
  refine till_next (i := 10) (o := _) (by kernel_rfl) rfl (fun K hK => ?_)
  go_simp
  go_at_call 63
  refine (FU.out _ ((q0.trans q9).trans q2)).mono ?_
  rintro e w3 ⟨v3, rfl, u3, q3⟩
  obtain ⟨A4, c4, rfl⟩ := u3.form
  have U3 := Lib.hid (u3.low ((q0.trans q9).trans q2).size)
  clear u3
  have q10 := (q9.trans q2).trans q3
  obtain ⟨r0, r1, r2, r3, r4⟩ := bx_bkt (Y.out.on q10)
  obtain ⟨fz0, fz1, fz2, fz3, fz4⟩ := bkt_frozen (Y.out.on q10)
  refine hK.out _ _ (KF.out _ ((q9.trans q2).trans q3)) (fun hTill => ?_)
  clear hK K
  (try simp only [Act.put, PS])
  refine till_pure (i := 13) (o := _) (v := ?_) rfl (by kernel_rfl) (by kernel_rfl) (by kernel_rfl) (by decide) (fun _ _ _ h => h) (Or.inl ⟨by rfl, ?_⟩) (by first | (intro _; assumption) | (intro e; exact absurd e (by decide))) ?_
  rotate_left
  · (intro wx hSw; go_simp; (try with_reducible rfl))
  (try simp only [Act.put, PS])
  refine till_last (i := 14) (o := _) (by kernel_rfl) rfl (by rfl) (fun K hK => ?_)
  go_simp
  refine hK.out _ _ ?_
  clear hK K
  (try simp only [Act.put, PS])
  refine till_done (by kernel_rfl) ?_ _
  go_wp2
  (try simp only [Exit.inBlock, Exit.then])
  obtain ⟨wC, hwC⟩ : ∃ wC, wC = ((((w3.setCell ⟨w.heap.size + 1, 0, none⟩ (.string (fewS b.name))).setCell ⟨w.heap.size + 1, 1, none⟩ (.int .i64 b.st)).setCell ⟨w.heap.size + 1, 2, none⟩ (.slice A3 (fewE b.L).length c3)).setCell ⟨w.heap.size + 1, 3, none⟩ (.slice A4 (fewL b.U).length c4)).setCell ⟨w.heap.size + 1, 4, none⟩ (.int .u64 (b.last : Nat)) := ⟨_, rfl⟩
  have gk : Kp (w.heap.size + 1) w3 wC := by rw [hwC]; exact (((((Kp.of (Q.refl w3)).set 0 _).set 1 _).set 2 _).set 3 _).set 4 _
  have bD : Bx wC (w.heap.size + 1) 60 (bcl (fewB b) (.slice A3 (fewB b).L.length c3) (.slice A4 (fewB b).U.length c4)) := by rw [hwC]; exact bkt_all (b := fewB b) (Y.out.on q10)
  have cm : OfT 60 w3 (some (w.heap.size + 1)) := by
    intro k hk
    injection hk with hk
    subst hk
    exact ⟨_, _, Y.out.on q10⟩
  have qC : Q w wC := gk.q (q0.trans q10) (by omega)
  have eC := (E2.out.on q3).else (by decide) (by decide) cm gk
  have uC := U3.out.else (by decide) (by decide) cm gk
  rw [← hwC]
  obtain ⟨v0, v1, v2, v3, v4⟩ := bx_bkt bD
  refine bodyPost_ret (v := bkt (fewB b) (.slice A3 (fewB b).L.length c3) (.slice A4 (fewB b).U.length c4)) ?_ rfl ⟨A3, c3, A4, c4, rfl, ⟨eC, uC⟩, qC⟩
  simp [results, Tryz.results29, go_sem, v0, v1, v2, v3, v4, bkt]
/-- Something that is done. -/
structure Actn where
  kind : Nat
  key : ByteArray
  data : ByteArray
  id : Nat
  n : Int
  tm : Int
  P : List Pce
def acl (a : Actn) (pv : Value) : Array Value := #[.int .u8 (a.kind : Nat), .string a.key, .string a.data, .int .u64 (a.id : Nat), .int .i64 a.n, .int .i64 a.tm, pv]
def actV (a : Actn) (pv : Value) : Value := .agg (acl a pv)
/-- An act whose numbers are of their kinds. -/
def okA9 (a : Actn) : Prop := a.kind < 256 ∧ a.key.size ≤ maxLen ∧ a.data.size ≤ maxLen ∧ a.id < 18446744073709551616 ∧ (-9223372036854775808 ≤ a.n ∧ a.n ≤ 9223372036854775807) ∧ (-9223372036854775808 ≤ a.tm ∧ a.tm ≤ 9223372036854775807) ∧ a.P.length ≤ maxLen
def cutA (a : Actn) : Actn := { a with key := fewS a.key, data := oneD a.data, P := a.P.take 40 }
end Go.Proofs.YtbilnomafloopaaGreat

namespace Go.Proofs.YtbilnomafloopaaGreat
set_option maxRecDepth 100000
open Go.ChangeShapes Go.WideShapes Go.ChangeAt Go.RowKit
set_option linter.unusedVariables false
set_option linter.unusedSimpArgs false
/-- A row of buckets all of whose lists are rows of the call's own. -/
def RowD (base : Nat) (w : World) (v : Value) (l : List Bkt) : Prop := ∃ P : List Bkp, P.map (·.b) = l ∧ RowK base w v P ∧ ∀ p ∈ P, okBk p.b ∧ OwnB base w p.b p.lv p.uv
theorem RowD.nil (base : Nat) (w : World) : RowD base w (.slice none 0 0) [] := ⟨[], rfl, World.ownsRow_nil w _ _ _, by simp⟩
theorem RowD.on {base : Nat} {w w' : World} {v : Value} {l : List Bkt} (h : RowD base w v l) (q : Q w w') : RowD base w' v l := by
  obtain ⟨P, e, r, f⟩ := h
  exact ⟨P, e, r.on q, fun p hp => ⟨(f p hp).1, (f p hp).2.on q⟩⟩
theorem RowD.own {base : Nat} {w : World} {v : Value} {l : List Bkt} (h : RowD base w v l) (hb : base ≤ w.heap.size) : OwnK base w v l := by
  obtain ⟨P, e, r, f⟩ := h
  exact ⟨P, e, r, fun p hp => ⟨(f p hp).1, (f p hp).2.read hb⟩⟩
theorem RowD.form {base : Nat} {w : World} {v : Value} {l : List Bkt} (h : RowD base w v l) : ∃ A c, v = .slice A l.length c := by
  obtain ⟨P, rfl, r, -⟩ := h
  rw [List.length_map]
  rcases r.2 with ⟨rfl, h0⟩ | ⟨g, cap, cur, rfl, -⟩
  · exact ⟨none, 0, by rw [h0]⟩
  · exact ⟨_, _, rfl⟩
theorem RowD.lt {base : Nat} {w : World} {v : Value} {l : List Bkt} (h : RowD base w v l) : ∀ k, v.ownBlock = some k → base ≤ k := by
  obtain ⟨P, rfl, r, -⟩ := h
  exact fun k hk => (World.ownsRow.lt r k hk).1
theorem RowK.onto {base k : Nat} {w2 : World} {v2 : Value} {P R : List Bkp} (h1 : w2.ownsRow base 60 5 v2 (P.length + k) (P.flatMap kcl ++ R.flatMap kcl)) (hk : k = R.length) : RowK base w2 v2 (P ++ R) := by
  subst hk
  unfold RowK
  rw [List.flatMap_append, List.length_append]
  exact h1
theorem wp_snoc_bkt {o : Oper} {a : Act} {K : Act → World → Prop} {Q : Exit → Act → World → Prop} (w : World) (s x : Operand) (t t2 : TypeId)
    (htt : Tryz.prog.underlying t = some (.slice 60)) (ho : o.op = .call { callee := .builtin .append, args := #[s, x], argTypes := #[t, t] })
    (base g : Nat) (v : Value) (l : List Bkt) (p : Bkp) {c : Nat} (hs : a.eval s = v) (hx : a.eval x = .slice (some ⟨g, 0, none⟩) 1 c) (hgg : ∀ j u, (kcl p)[j]? = some u → w.cell? ((⟨g, 0, none⟩ : Addr).add j) = some u) (h : RowD base w v l) (hp : okBk p.b ∧ OwnB base w p.b p.lv p.uv)
    (hb : base ≤ w.heap.size) (hl : l.length ≤ 4000)
    (k : ∀ v' w', RowD base w' v' (l ++ [p.b]) → w.grownBy w' v.ownBlock → K (a.put o.dst v') w') : o.wp Tryz.prog a w K Q := by
  obtain ⟨i0, hi0, hz0, hz1, hz2⟩ := info_parts info_bk
  obtain ⟨P, hP, r, f⟩ := h
  have hPl : P.length = l.length := by rw [← hP, List.length_map]
  have sl := (hp.2.read hb).slices
  obtain ⟨v', w', h1, h2, h3, -⟩ := run_append_own (P := Tryz.prog) w base t o.type 60 i0 (.agg #[.string ⟨#[]⟩, .int .i64 0, .slice none 0 0, .slice none 0 0, .int .u64 0]) 5 80 htt hi0 hz0 hz1 hz2 rfl (by decide) v P.length (P.flatMap kcl) r ⟨g, 0, none⟩ 1 c (kcl p) rfl hgg (kcl_one sl.1 sl.2) (by unfold maxLen; omega) (by omega) hb
  unfold Oper.wp execOp
  simp only [ho, resolve, invoke, builtin, Sem.run_bind, Sem.run_pure, Result.andThen_ok, List.map_toArray, List.map_cons, List.map_nil, hs, hx, h1]
  refine k v' w' ⟨P ++ [p], by rw [List.map_append, hP]; rfl, RowK.onto (R := [p]) (by simpa using h2) rfl, fun q hq => ?_⟩ h3
  rcases List.mem_append.1 hq with hq | hq
  · exact ⟨(f q hq).1, (f q hq).2.else (ofT_row r) h3⟩
  · obtain rfl : q = p := by simpa using hq
    exact ⟨hp.1, hp.2.else (ofT_row r) h3⟩
theorem cells_oneK (w : World) (p : Bkp) (t : TypeId) : ∀ j u, (kcl p)[j]? = some u → (w.alloc (.cells #[.string p.b.name, .int .i64 p.b.st, p.lv, p.uv, .int .u64 (p.b.last : Nat)] t)).cell? ((⟨w.heap.size, 0, none⟩ : Addr).add j) = some u := by
  intro j u hj
  obtain ⟨hj2, rfl⟩ := List.getElem?_eq_some_iff.1 hj
  match j, hj2 with
  | 0, _ => simp [Addr.add, kcl]
  | 1, _ => simp [Addr.add, kcl]
  | 2, _ => simp [Addr.add, kcl]
  | 3, _ => simp [Addr.add, kcl]
  | 4, _ => simp [Addr.add, kcl]
theorem array2D {α : Type} {cs : Array α} (h : cs.size = 2) : ∃ a b, cs = #[a, b] := by
  obtain ⟨l⟩ := cs
  match l, h with
  | [a, b], _ => exact ⟨a, b, rfl⟩
theorem trod_bk {H : Type} {enc : TypeId × Value → H} {W : World} {n : Nat} {cs : List Value} {y : DataW H × List MemPlace} (hl : cs.length = 5)
    (hf : DataW.trod enc Tryz.prog W 0 (fun _ => true) true n 60 cs = some y) :
    ∃ (b : Bkt) (lv uv : Value), cs = [.string b.name, .int .i64 b.st, lv, uv, .int .u64 (b.last : Nat)] ∧ okBk b ∧ BktV W b lv uv := by
  obtain ⟨v0, v1, v2, v3, v4, rfl⟩ : ∃ a b c d e, cs = [a, b, c, d, e] := by
    match cs, hl with
    | [a, b, c, d, e], _ => exact ⟨a, b, c, d, e, rfl⟩
  obtain ⟨xs, n', _, _, hl0, hlen, hg⟩ := DataW.trod_struct Tryz.underlying60 hf
  have hlen5 : xs.length = 5 := hlen
  have c0 : Tryz.prog.cellsOf 9 = 1 := by kernel_rfl
  have c1 : Tryz.prog.cellsOf 3 = 1 := by kernel_rfl
  have c2 : Tryz.prog.cellsOf 57 = 1 := by kernel_rfl
  have c3 : Tryz.prog.cellsOf 58 = 1 := by kernel_rfl
  have c4 : Tryz.prog.cellsOf 47 = 1 := by kernel_rfl
  have g0 := hg 0 _ rfl
  have g1 := hg 1 _ rfl
  have g2 := hg 2 _ rfl
  have g3 := hg 3 _ rfl
  have g4 := hg 4 _ rfl
  rw [List.getElem?_eq_getElem (by omega)] at g0 g1 g2 g3 g4
  simp [c0, c1, c2, c3, c4] at g0 g1 g2 g3 g4
  obtain ⟨s0, e0, -, w0⟩ := DataW.trod_string Tryz.underlying9 g0
  obtain ⟨s1, e1, -, w1⟩ := DataW.trod_int Tryz.underlying3 g1
  obtain ⟨L, hL, mL⟩ := ents_cell g2
  obtain ⟨U, hU, mU⟩ := upl_cellE g3
  obtain ⟨s4, e4, -, w4⟩ := DataW.trod_int Tryz.underlying47 g4
  simp at e0 e1 e4
  subst e0 e1 e4
  obtain ⟨i', rfl, hi'⟩ := wfu64 w4
  exact ⟨⟨s0, s1, L, U, i'⟩, v2, v3, rfl, ⟨w0, mL, mU, hi', (wf64 w1).1, (wf64 w1).2⟩, hL, hU⟩
theorem bks_cell {H : Type} {enc : TypeId × Value → H} {W : World} {n : Nat} {v : Value} {y : DataW H × List MemPlace}
    (hf : DataW.trod enc Tryz.prog W 0 (fun _ => true) true n 22 [v] = some y) : ∃ l : List Bkt, Bks W W.heap.size v l ∧ l.length ≤ maxLen := by
  rcases Deep.open_slice Tryz.underlying22 hf with ⟨hcs, hx⟩ | ⟨a, len', cap', m, n, D, Pl, hcs, _, hl, hm, hmm, hx, hel⟩
  · simp at hcs
    subst hcs
    exact ⟨[], Bks.nil _ _, by simp⟩
  · simp at hcs
    subst hcs
    have each : ∀ i, i < len' → ∃ x : Bkt, okBk x ∧ AtBk W W.heap.size (a.add (i * 5)) x := by
      intro i hi
      obtain ⟨cs', h1, h2⟩ := hel i (by rw [hmm]; simp; omega)
      rw [cells_bk] at h1
      obtain ⟨-, hlen5, hcell⟩ := World.cells?_some h1
      obtain ⟨b, lv, uv, rfl, ok, hv⟩ := trod_bk hlen5 h2
      refine ⟨b, ok, hcell 0 (by omega), (congrArg W.cell? (add_pos _ (by omega : 0 < 1)).symm).trans (hcell 1 (by omega)), (congrArg W.cell? (add_pos _ (by omega : 0 < 4)).symm).trans (hcell 4 (by omega)), lv, uv, ?_, ?_, hv.1, hv.2⟩
      · exact (congrArg W.cell? (add_pos _ (by omega : 0 < 2)).symm).trans (hcell 2 (by omega))
      · exact (congrArg W.cell? (add_pos _ (by omega : 0 < 3)).symm).trans (hcell 3 (by omega))
    obtain ⟨l, hlen, hp⟩ := list_of len' each
    refine ⟨l, ⟨some a, cap', by rw [hlen], by omega, (by simp), ?_, fun k hk => ⟨a, rfl, ?_, (hp k hk).2⟩⟩, by omega⟩
    · intro x hx
      obtain ⟨k, hk, rfl⟩ := List.getElem_of_mem hx
      exact (hp k hk).1
    · have := World.block_lt_of_cell? W _ (hp k hk).2.1
      rw [add_block] at this; exact this
/-- A depot that came in. -/
theorem open_dep {H : Type} {enc : TypeId × Value → H} {W : World} {b0 : Nat} {v : Value} {d : DataW H} {p : List MemPlace} (hv : Value.okWide Tryz.prog W .any b0 24 v)
    (h : DataW.Trod enc Tryz.prog W 0 (fun _ => true) true 24 v d p) :
    ∃ (x : Dep) (dv : Value), v = .agg #[.int .i64 x.now, dv] ∧ Bks W W.heap.size dv x.L ∧ x.L.length ≤ maxLen ∧ -9223372036854775808 ≤ x.now ∧ x.now ≤ 9223372036854775807 := by
  obtain ⟨cs, rfl, hsz⟩ := okWide_struct Tryz.underlying24 hv
  have h4 : Tryz.prog.cellsOf 24 = 2 := by kernel_rfl
  rw [h4] at hsz
  obtain ⟨v0, v1, rfl⟩ := array2D hsz
  obtain ⟨fuel, hf⟩ := h
  obtain ⟨xs, n, _, _, hl0, hlen, hg⟩ := DataW.trod_struct Tryz.underlying24 hf
  have hlen2 : xs.length = 2 := hlen
  have c0 : Tryz.prog.cellsOf 3 = 1 := by kernel_rfl
  have c1 : Tryz.prog.cellsOf 22 = 1 := by kernel_rfl
  have g0 := hg 0 _ rfl
  have g1 := hg 1 _ rfl
  rw [List.getElem?_eq_getElem (by omega)] at g0 g1
  simp [Value.cells, c0, c1] at g0 g1
  obtain ⟨s0, e0, -, w0⟩ := DataW.trod_int Tryz.underlying3 g0
  obtain ⟨L, hL, mL⟩ := bks_cell g1
  simp at e0
  subst e0
  exact ⟨⟨s0, L⟩, v1, rfl, hL, mL, (wf64 w0).1, (wf64 w0).2⟩
end Go.Proofs.YtbilnomafloopaaGreat

