/-
  Contract of the statements' Few over uploads.
-/
import Derived.Test.YtlahccmlnbdekaaUFew
import Derived.Test.YtlahccmlnbdekaaURow
import Derived.Deep.DeepCutAuto
import Derived.Deep.RegionHeld3
namespace Go.Proofs.Ytlahccmlnbdekaa
open Go.ChangeShapes Go.WideShapes Go.ChangeAt Go.RowKit
set_option linter.unusedVariables false
set_option linter.unusedSimpArgs false
set_option maxRecDepth 100000

theorem fewL_next {l : List Upl} {i : Nat} (h : i < l.length) : (l.take (i + 1)).map fewU = (l.take i).map fewU ++ [fewU l[i]] := by
  rw [List.take_succ_eq_append_getElem h, List.map_append]; rfl
theorem oneL_next {L : List Prt} {i : Nat} (h : i < L.length) : (L.take (i + 1)).map oneP = (L.take i).map oneP ++ [oneP L[i]] := by
  rw [List.take_succ_eq_append_getElem h, List.map_append]; rfl
set_option maxHeartbeats 8000000 in
theorem fewUp_row (l : List Upl) (v : Value) (w : World) (hl : l.length ≤ maxLen) (ht : Upls w w.heap.size v l) :
    Calls Try.prog 10 #[v] w fun e w' => ∃ v', e = .returned v' ∧ RowF w.heap.size w' v' (fewL l) ∧ Q w w' := by
  unfold maxLen at hl
  have HT := Lib.hid ht
  obtain ⟨A, c, rfl⟩ := ht.form
  obtain ⟨N, hn⟩ : ∃ N, l.length = N := ⟨_, rfl⟩
  rw [hn] at HT hl ⊢
  have HN := Lib.hid hn
  clear ht hn
  go_enter Try.func10, Try.ntmps10
  go_wp2_with fail
  go_loopw [3, 4, 5, 6] (fun O I _ _ wr => ∃ (i : Nat) (A5 : Option Addr) (n5 c5 : Nat) (M : List Upl), O = .slice A5 n5 c5 ∧ i ≤ N ∧ i ≤ 11 ∧ I = .int .i64 i ∧ M.length = i ∧ RowF w.heap.size wr (.slice A5 n5 c5) M ∧ Q w wr ∧ Hid (M = (l.take i).map fewU)) (fun _ I _ _ _ => 11 - (intOf I).toNat)
  case atStart => exact ⟨0, none, 0, 0, [], rfl, Nat.zero_le _, Nat.zero_le _, rfl, rfl, RowF.nil _ _, Q.refl _, Lib.hid (by simp)⟩
  case round =>
    obtain ⟨i, A5, n5, c5, M, rfl, hil, hi11, rfl, hM, own, q, HM⟩ := hrel
    obtain ⟨wo, hwo⟩ : ∃ x, x = wr := ⟨_, rfl⟩
    subst hwo
    by_cases hlt : i < N
    · by_cases h11 : i < 11
      · have hltL : i < l.length := by have := HN.out; omega
        obtain ⟨a, c', hv, ha, A2, c2, hps, hat⟩ := HT.out.pick i hltL
        injection hv with e1 e2 e3
        subst e1 e3
        have hilt : (i : Int) < (N : Int) := by omega
        have hi11' : (i : Int) < 11 := by omega
        have HX : Hid (M ++ [fewU l[i]] = (l.take (i + 1)).map fewU) := Lib.hid (by rw [HM.out, fewL_next hltL])
        have hok := HT.out.okAll _ (List.getElem_mem hltL)
        have hin := HT.out.okIn _ (List.getElem_mem hltL)
        obtain ⟨x, hx⟩ : ∃ x, x = l[i] := ⟨_, rfl⟩
        rw [← hx] at hat hps HX hok hin
        obtain ⟨xi, key, L⟩ := x
        simp only at hat hps hok hin
        have HPS := Lib.hid hps
        have HIN := Lib.hid hin
        have HAT : Hid (∀ d, Q w d → d.cell? (a.add (i * 3)) = some (.int .u64 (xi : Nat)) ∧ d.cell? ⟨(a.add (i * 3)).block, (a.add (i * 3)).off + 1, none⟩ = some (.string key) ∧ d.cell? ⟨(a.add (i * 3)).block, (a.add (i * 3)).off + 2, none⟩ = some (.slice A2 L.length c2)) := Lib.hid hat
        obtain ⟨n, hn⟩ : ∃ n, L.length = n := ⟨_, rfl⟩
        rw [hn] at HAT HPS
        have HNL := Lib.hid hn
        have hkey : key.size ≤ maxLen := hok.2.1
        have hid : xi < 18446744073709551616 := hok.1
        have hnm : n ≤ maxLen := by rw [← hn]; exact hok.2.2
        unfold maxLen at hnm
        have K := Lib.hid fun d => fewS_any key d hkey
        have HOKX := Lib.hid hok
        clear hat hps hin hx e2 hn hok
        have KF : Hid (∀ b, Q wo b → (fun W => W.cell? (a.add (i * 3)) = some (.int .u64 (xi : Nat)) ∧ W.cell? ⟨(a.add (i * 3)).block, (a.add (i * 3)).off + 1, none⟩ = some (.string key) ∧ Q wo W) b) := Lib.hid fun b qb => ⟨(HAT.out b (q.trans qb)).1, (HAT.out b (q.trans qb)).2.1, qb⟩
        obtain ⟨key', hk'⟩ : ∃ k, k = fewS key := ⟨_, rfl⟩
        rw [← hk'] at K
        have HK' := Lib.hid hk'
        clear hk'
        have K0 := K
        clear K
        go_upto_region 5 with fail
        go_cut [5] from 17 to 28 (fun U wz => U = .pointer (some ⟨wo.heap.size, 0, none⟩) ∧ Bx wz wo.heap.size 40 #[.int .u64 (xi : Nat), .string key', .slice none 0 0] ∧ Q wo wz)
        case first =>
          refine wp_region_held_drew (S := (fun W => W.cell? (a.add (i * 3)) = some (.int .u64 (xi : Nat)) ∧ W.cell? ⟨(a.add (i * 3)).block, (a.add (i * 3)).off + 1, none⟩ = some (.string key) ∧ Q wo W)) (by kernel_rfl) (KF.out _ (Q.refl wo).drew) (fun hHeld => ?_)
          refine wpAnyH_take (i := 0) (oi := _) (v := ?_) rfl (by kernel_rfl) (by kernel_rfl) (by kernel_rfl) (fun _ _ _ h => h) (Or.inl ⟨by rfl, ?_⟩) (by assumption) ?_
          rotate_left
          · (intro wx hSw; (try dsimp only at hSw); go_simp; (try with_reducible rfl))
          (try simp only [Act.put, List.getElem_toArray, List.getElem_cons_zero, List.getElem_cons_succ, List.setIfInBounds_toArray, List.set_cons_zero, List.set_cons_succ])
          refine wpAnyH_take (i := 1) (oi := _) (v := ?_) rfl (by kernel_rfl) (by kernel_rfl) (by kernel_rfl) (fun _ _ _ h => h) (Or.inl ⟨by rfl, ?_⟩) (by assumption) ?_
          rotate_left
          · (intro wx hSw; (try dsimp only at hSw); go_simp; (try with_reducible rfl))
          (try simp only [Act.put, List.getElem_toArray, List.getElem_cons_zero, List.getElem_cons_succ, List.setIfInBounds_toArray, List.set_cons_zero, List.set_cons_succ])
          refine wpAnyH_take (i := 2) (oi := _) (v := ?_) rfl (by kernel_rfl) (by kernel_rfl) (by kernel_rfl) (fun _ _ _ h => h) (Or.inl ⟨by rfl, ?_⟩) (by assumption) ?_
          rotate_left
          · (intro wx hSw; (try dsimp only at hSw); go_simp; (try with_reducible rfl))
          (try simp only [Act.put, List.getElem_toArray, List.getElem_cons_zero, List.getElem_cons_succ, List.setIfInBounds_toArray, List.set_cons_zero, List.set_cons_succ])
          refine wpAnyH_take (i := 3) (oi := _) (v := ?_) rfl (by kernel_rfl) (by kernel_rfl) (by kernel_rfl) (fun _ _ _ h => h) (Or.inl ⟨by rfl, ?_⟩) (by assumption) ?_
          rotate_left
          · (intro wx hSw; (try dsimp only at hSw); go_simp; (try with_reducible rfl))
          (try simp only [Act.put, List.getElem_toArray, List.getElem_cons_zero, List.getElem_cons_succ, List.setIfInBounds_toArray, List.set_cons_zero, List.set_cons_succ])
          refine wpAnyH_take (i := 4) (oi := _) (v := ?_) rfl (by kernel_rfl) (by kernel_rfl) (by kernel_rfl) (fun _ _ _ h => h) (Or.inl ⟨by rfl, ?_⟩) (by assumption) ?_
          rotate_left
          · (intro wx hSw; (try dsimp only at hSw); go_simp; (try with_reducible rfl))
          (try simp only [Act.put, List.getElem_toArray, List.getElem_cons_zero, List.getElem_cons_succ, List.setIfInBounds_toArray, List.set_cons_zero, List.set_cons_succ])
          refine wpAnyH_take (i := 5) (oi := _) (v := ?_) rfl (by kernel_rfl) (by kernel_rfl) (by kernel_rfl) (fun _ _ _ h => h) (Or.inl ⟨by rfl, ?_⟩) (by assumption) ?_
          rotate_left
          · (intro wx hSw; (try dsimp only at hSw); go_simp; (try with_reducible rfl))
          (try simp only [Act.put, List.getElem_toArray, List.getElem_cons_zero, List.getElem_cons_succ, List.setIfInBounds_toArray, List.set_cons_zero, List.set_cons_succ])
          refine wpAnyH_take (i := 6) (oi := _) (v := ?_) rfl (by kernel_rfl) (by kernel_rfl) (by kernel_rfl) (fun _ _ _ h => h) (Or.inl ⟨by rfl, ?_⟩) (by assumption) ?_
          rotate_left
          · (intro wx hSw; (try dsimp only at hSw); go_simp; (try with_reducible rfl))
          (try simp only [Act.put, List.getElem_toArray, List.getElem_cons_zero, List.getElem_cons_succ, List.setIfInBounds_toArray, List.set_cons_zero, List.set_cons_succ])
          refine wpAnyH_take (i := 7) (oi := _) (v := ?_) rfl (by kernel_rfl) (by kernel_rfl) (by kernel_rfl) (fun _ _ _ h => h) (Or.inl ⟨by rfl, ?_⟩) (by assumption) ?_
          rotate_left
          · (intro wx hSw; (try dsimp only at hSw); go_simp; (try with_reducible rfl))
          (try simp only [Act.put, List.getElem_toArray, List.getElem_cons_zero, List.getElem_cons_succ, List.setIfInBounds_toArray, List.set_cons_zero, List.set_cons_succ])
          refine wpAnyH_take (i := 8) (oi := _) (v := ?_) rfl (by kernel_rfl) (by kernel_rfl) (by kernel_rfl) (fun _ _ _ h => h) (Or.inl ⟨by rfl, ?_⟩) (by assumption) ?_
          rotate_left
          · (intro wx hSw; (try dsimp only at hSw); go_simp; (try with_reducible rfl))
          (try simp only [Act.put, List.getElem_toArray, List.getElem_cons_zero, List.getElem_cons_succ, List.setIfInBounds_toArray, List.set_cons_zero, List.set_cons_succ])
          refine wpAnyH_take (i := 9) (oi := _) (v := ?_) rfl (by kernel_rfl) (by kernel_rfl) (by kernel_rfl) (fun _ _ _ h => h) (Or.inl ⟨by rfl, ?_⟩) (by assumption) ?_
          rotate_left
          · (intro wx hSw; (try dsimp only at hSw); go_simp; (try with_reducible rfl))
          (try simp only [Act.put, List.getElem_toArray, List.getElem_cons_zero, List.getElem_cons_succ, List.setIfInBounds_toArray, List.set_cons_zero, List.set_cons_succ])
          refine wpAnyH_ready (rs := [10, 12]) (by kernel_rfl) (by simp) ?_
          refine AllReadyH.cons (o := _) rfl (fun K hK => ?_) (AllReadyH.cons (o := _) rfl (fun K hK => ?_) AllReadyH.nil)
          · go_simp
            go_at_call 22
            refine (K0.out _).mono ?_
            rintro e w1 ⟨rfl, rfl⟩
            refine hK.out _ _ (KF.out _ (Q.refl wo).drew) (fun hHeld => ?_)
            clear hK K
            (try simp only [Act.put, List.getElem_toArray, List.getElem_cons_zero, List.getElem_cons_succ, List.setIfInBounds_toArray, List.set_cons_zero, List.set_cons_succ])
            refine wpAnyH_take (i := 11) (oi := _) (v := ?_) rfl (by kernel_rfl) (by kernel_rfl) (by kernel_rfl) (fun _ _ _ h => h) (Or.inl ⟨by rfl, ?_⟩) (by assumption) ?_
            rotate_left
            · (intro wx hSw; (try dsimp only at hSw); go_simp; (try with_reducible rfl))
            (try simp only [Act.put, List.getElem_toArray, List.getElem_cons_zero, List.getElem_cons_succ, List.setIfInBounds_toArray, List.set_cons_zero, List.set_cons_succ])
            refine wpAnyH_ready (rs := [12]) (by kernel_rfl) (by simp) ?_
            refine AllReadyH.cons (o := _) rfl (fun K hK => ?_) AllReadyH.nil
            go_simp
            refine hK.out _ _ (KF.out _ ((Q.refl wo).alloc _).drew) (fun hHeld => ?_)
            clear hK K
            (try simp only [Act.put, List.getElem_toArray, List.getElem_cons_zero, List.getElem_cons_succ, List.setIfInBounds_toArray, List.set_cons_zero, List.set_cons_succ])
            refine wpAnyH_ready (rs := [13]) (by kernel_rfl) (by simp) ?_
            refine AllReadyH.cons (o := _) rfl (fun K hK => ?_) AllReadyH.nil
            go_simp
            refine hK.out _ _ (KF.out _ ((Q.refl wo).alloc _).drew) (fun hHeld => ?_)
            clear hK K
            (try simp only [Act.put, List.getElem_toArray, List.getElem_cons_zero, List.getElem_cons_succ, List.setIfInBounds_toArray, List.set_cons_zero, List.set_cons_succ])
            refine wpAnyH_done (by kernel_rfl) ?_ _
            go_wp2_with fail
            go_meet
            exact ⟨rfl, (Bx.new wo _ _).on (Q.refl _).drew, ((Q.refl wo).alloc _).drew⟩
          · go_simp
            refine hK.out _ _ (KF.out _ ((Q.refl wo).alloc _).drew) (fun hHeld => ?_)
            clear hK K
            (try simp only [Act.put, List.getElem_toArray, List.getElem_cons_zero, List.getElem_cons_succ, List.setIfInBounds_toArray, List.set_cons_zero, List.set_cons_succ])
            refine wpAnyH_ready (rs := [10]) (by kernel_rfl) (by simp) ?_
            refine AllReadyH.cons (o := _) rfl (fun K hK => ?_) AllReadyH.nil
            go_simp
            go_at_call 22
            refine (K0.out _).mono ?_
            rintro e w1 ⟨rfl, rfl⟩
            refine hK.out _ _ (KF.out _ ((Q.refl wo).alloc _).drew) (fun hHeld => ?_)
            clear hK K
            (try simp only [Act.put, List.getElem_toArray, List.getElem_cons_zero, List.getElem_cons_succ, List.setIfInBounds_toArray, List.set_cons_zero, List.set_cons_succ])
            refine wpAnyH_take (i := 11) (oi := _) (v := ?_) rfl (by kernel_rfl) (by kernel_rfl) (by kernel_rfl) (fun _ _ _ h => h) (Or.inl ⟨by rfl, ?_⟩) (by assumption) ?_
            rotate_left
            · (intro wx hSw; (try dsimp only at hSw); go_simp; (try with_reducible rfl))
            (try simp only [Act.put, List.getElem_toArray, List.getElem_cons_zero, List.getElem_cons_succ, List.setIfInBounds_toArray, List.set_cons_zero, List.set_cons_succ])
            refine wpAnyH_ready (rs := [13]) (by kernel_rfl) (by simp) ?_
            refine AllReadyH.cons (o := _) rfl (fun K hK => ?_) AllReadyH.nil
            go_simp
            refine hK.out _ _ (KF.out _ ((Q.refl wo).alloc _).drew) (fun hHeld => ?_)
            clear hK K
            (try simp only [Act.put, List.getElem_toArray, List.getElem_cons_zero, List.getElem_cons_succ, List.setIfInBounds_toArray, List.set_cons_zero, List.set_cons_succ])
            refine wpAnyH_done (by kernel_rfl) ?_ _
            go_wp2_with fail
            go_meet
            exact ⟨rfl, (Bx.new wo _ _).on (Q.refl _).drew, ((Q.refl wo).alloc _).drew⟩
        case rest =>
          rename_i U wz
          obtain ⟨rfl, bx, qz⟩ := hcut
          clear KF
          go_wp2_with fail
          go_loopw [6] (fun J wr => ∃ (k : Nat) (A6 : Option Addr) (n6 c6 : Nat) (Y : List Prt), k ≤ n ∧ k ≤ 31 ∧ J = .int .i64 k ∧ Y.length = k ∧ Bx wr wo.heap.size 40 #[.int .u64 (xi : Nat), .string key', .slice A6 n6 c6] ∧ OwnP (wo.heap.size + 1) wr (.slice A6 n6 c6) Y ∧ Q wo wr ∧ Hid (Y = (L.take k).map oneP)) (fun J _ => 31 - (intOf J).toNat)
          case atStart => exact ⟨0, none, 0, 0, [], Nat.zero_le _, Nat.zero_le _, rfl, rfl, bx, OwnP.nil _ _, qz, Lib.hid (by simp)⟩
          case round =>
            obtain ⟨k, A6, n6, c6, Y, hkn, hk31, rfl, hY, bx, own2, qy, HY⟩ := hrel
            have x2 := bx.cell 2
            simp only [List.getElem?_toArray, List.getElem?_cons_zero, List.getElem?_cons_succ] at x2
            have u2 := (HAT.out _ (q.trans qy)).2.2
            by_cases hkl : k < n
            · by_cases hk3 : k < 31
              · have hkL : k < L.length := by have := HNL.out; omega
                obtain ⟨b, c3, hv3, hb, hokp, hbt⟩ := HPS.out.pick k hkL
                injection hv3 with f1 f2 f3
                subst f1 f3
                have hklt : (k : Int) < (n : Int) := by omega
                have hk3' : (k : Int) < 31 := by omega
                have HY2 : Hid (Y ++ [oneP L[k]] = (L.take (k + 1)).map oneP) := Lib.hid (by rw [HY.out, oneL_next hkL])
                obtain ⟨y, hy⟩ : ∃ y, y = L[k] := ⟨_, rfl⟩
                rw [← hy] at hbt HY2 hokp
                obtain ⟨yn, yd⟩ := y
                have ON1 := Lib.hid fun d => onePt_any ⟨yn, yd⟩ d hokp.2.2
                rw [prt, prt] at ON1
                simp only at ON1
                obtain ⟨e1n, e1d, he1⟩ : ∃ a b, oneP ⟨yn, yd⟩ = ⟨a, b⟩ := ⟨_, _, rfl⟩
                rw [he1] at ON1 HY2
                simp only at ON1
                have KF : Hid (∀ d, Bx d wo.heap.size 40 #[.int .u64 (xi : Nat), .string key', .slice A6 n6 c6] → Q wo d → (fun W => Bx W wo.heap.size 40 #[.int .u64 (xi : Nat), .string key', .slice A6 n6 c6] ∧ W.cell? ⟨(a.add (i * 3)).block, (a.add (i * 3)).off + 2, none⟩ = some (.slice (some b) n c2) ∧ W.cell? (b.add (k * 2)) = some (.int .i64 yn) ∧ W.cell? ⟨(b.add (k * 2)).block, (b.add (k * 2)).off + 1, none⟩ = some (.string yd) ∧ Q wo W) d) := Lib.hid fun d hd qd => ⟨hd, (HAT.out _ (q.trans qd)).2.2, (hbt _ (q.trans qd)).1, (hbt _ (q.trans qd)).2, qd⟩
                clear hbt hy f2 hokp he1
                have bx9 := bx.on (Q.refl wr).drew
                have own9 := own2.on (Q.refl wr).drew
                have q9 := qy.drew
                go_wp2_with fail
                refine till_begin (F := (fun W => Bx W wo.heap.size 40 #[.int .u64 (xi : Nat), .string key', .slice A6 n6 c6] ∧ W.cell? ⟨(a.add (i * 3)).block, (a.add (i * 3)).off + 2, none⟩ = some (.slice (some b) n c2) ∧ W.cell? (b.add (k * 2)) = some (.int .i64 yn) ∧ W.cell? ⟨(b.add (k * 2)).block, (b.add (k * 2)).off + 1, none⟩ = some (.string yd) ∧ Q wo W)) (st := 14) (by kernel_rfl) (KF.out _ bx9 q9) (fun hTill => ?_)
                refine till_take (i := 0) (o := _) (v := ?_) rfl (by kernel_rfl) (by kernel_rfl) (by kernel_rfl) (by kernel_rfl) (by rfl) (fun _ _ _ h => h) (Or.inl ⟨by rfl, ?_⟩) (by assumption) ?_
                rotate_left
                · (intro wx hSw; skip; go_simp; (try with_reducible rfl))
                (try simp only [Act.put, List.getElem_toArray, List.getElem_cons_zero, List.getElem_cons_succ, List.setIfInBounds_toArray, List.set_cons_zero, List.set_cons_succ])
                refine till_take (i := 1) (o := _) (v := ?_) rfl (by kernel_rfl) (by kernel_rfl) (by kernel_rfl) (by kernel_rfl) (by rfl) (fun _ _ _ h => h) (Or.inl ⟨by rfl, ?_⟩) (by assumption) ?_
                rotate_left
                · (intro wx hSw; have hz := hSw.1.cell 2; simp only [List.getElem?_toArray, List.getElem?_cons_zero, List.getElem?_cons_succ] at hz; have hz1 := hSw.2.1; have hz2 := hSw.2.2.1; have hz3 := hSw.2.2.2.1; go_simp; (try with_reducible rfl))
                (try simp only [Act.put, List.getElem_toArray, List.getElem_cons_zero, List.getElem_cons_succ, List.setIfInBounds_toArray, List.set_cons_zero, List.set_cons_succ])
                refine till_take (i := 2) (o := _) (v := ?_) rfl (by kernel_rfl) (by kernel_rfl) (by kernel_rfl) (by kernel_rfl) (by rfl) (fun _ _ _ h => h) (Or.inl ⟨by rfl, ?_⟩) (by assumption) ?_
                rotate_left
                · (intro wx hSw; skip; go_simp; (try with_reducible rfl))
                (try simp only [Act.put, List.getElem_toArray, List.getElem_cons_zero, List.getElem_cons_succ, List.setIfInBounds_toArray, List.set_cons_zero, List.set_cons_succ])
                refine till_take (i := 3) (o := _) (v := ?_) rfl (by kernel_rfl) (by kernel_rfl) (by kernel_rfl) (by kernel_rfl) (by rfl) (fun _ _ _ h => h) (Or.inl ⟨by rfl, ?_⟩) (by assumption) ?_
                rotate_left
                · (intro wx hSw; skip; go_simp; (try with_reducible rfl))
                (try simp only [Act.put, List.getElem_toArray, List.getElem_cons_zero, List.getElem_cons_succ, List.setIfInBounds_toArray, List.set_cons_zero, List.set_cons_succ])
                refine till_take (i := 4) (o := _) (v := ?_) rfl (by kernel_rfl) (by kernel_rfl) (by kernel_rfl) (by kernel_rfl) (by rfl) (fun _ _ _ h => h) (Or.inl ⟨by rfl, ?_⟩) (by assumption) ?_
                rotate_left
                · (intro wx hSw; skip; go_simp; (try with_reducible rfl))
                (try simp only [Act.put, List.getElem_toArray, List.getElem_cons_zero, List.getElem_cons_succ, List.setIfInBounds_toArray, List.set_cons_zero, List.set_cons_succ])
                refine till_take (i := 5) (o := _) (v := ?_) rfl (by kernel_rfl) (by kernel_rfl) (by kernel_rfl) (by kernel_rfl) (by rfl) (fun _ _ _ h => h) (Or.inl ⟨by rfl, ?_⟩) (by assumption) ?_
                rotate_left
                · (intro wx hSw; skip; go_simp; (try with_reducible rfl))
                (try simp only [Act.put, List.getElem_toArray, List.getElem_cons_zero, List.getElem_cons_succ, List.setIfInBounds_toArray, List.set_cons_zero, List.set_cons_succ])
                refine till_take (i := 6) (o := _) (v := ?_) rfl (by kernel_rfl) (by kernel_rfl) (by kernel_rfl) (by kernel_rfl) (by rfl) (fun _ _ _ h => h) (Or.inl ⟨by rfl, ?_⟩) (by assumption) ?_
                rotate_left
                · (intro wx hSw; have hz := hSw.1.cell 2; simp only [List.getElem?_toArray, List.getElem?_cons_zero, List.getElem?_cons_succ] at hz; have hz1 := hSw.2.1; have hz2 := hSw.2.2.1; have hz3 := hSw.2.2.2.1; go_simp; (try with_reducible rfl))
                (try simp only [Act.put, List.getElem_toArray, List.getElem_cons_zero, List.getElem_cons_succ, List.setIfInBounds_toArray, List.set_cons_zero, List.set_cons_succ])
                refine till_take (i := 7) (o := _) (v := ?_) rfl (by kernel_rfl) (by kernel_rfl) (by kernel_rfl) (by kernel_rfl) (by rfl) (fun _ _ _ h => h) (Or.inl ⟨by rfl, ?_⟩) (by assumption) ?_
                rotate_left
                · (intro wx hSw; skip; go_simp; (try with_reducible rfl))
                (try simp only [Act.put, List.getElem_toArray, List.getElem_cons_zero, List.getElem_cons_succ, List.setIfInBounds_toArray, List.set_cons_zero, List.set_cons_succ])
                refine till_take (i := 8) (o := _) (v := ?_) rfl (by kernel_rfl) (by kernel_rfl) (by kernel_rfl) (by kernel_rfl) (by rfl) (fun _ _ _ h => h) (Or.inl ⟨by rfl, ?_⟩) (by assumption) ?_
                rotate_left
                · (intro wx hSw; skip; go_simp; (try with_reducible rfl))
                (try simp only [Act.put, List.getElem_toArray, List.getElem_cons_zero, List.getElem_cons_succ, List.setIfInBounds_toArray, List.set_cons_zero, List.set_cons_succ])
                refine till_take (i := 9) (o := _) (v := ?_) rfl (by kernel_rfl) (by kernel_rfl) (by kernel_rfl) (by kernel_rfl) (by rfl) (fun _ _ _ h => h) (Or.inl ⟨by rfl, ?_⟩) (by assumption) ?_
                rotate_left
                · (intro wx hSw; have hz := hSw.1.cell 2; simp only [List.getElem?_toArray, List.getElem?_cons_zero, List.getElem?_cons_succ] at hz; have hz1 := hSw.2.1; have hz2 := hSw.2.2.1; have hz3 := hSw.2.2.2.1; go_simp; (try with_reducible rfl))
                (try simp only [Act.put, List.getElem_toArray, List.getElem_cons_zero, List.getElem_cons_succ, List.setIfInBounds_toArray, List.set_cons_zero, List.set_cons_succ])
                refine till_next (i := 10) (o := _) (by kernel_rfl) rfl (fun K hK => ?_)
                go_simp
                go_at_call 11
                refine (ON1.out _).mono ?_
                rintro e w4 ⟨rfl, q4⟩
                have bx10 := bx9.on q4
                have own10 := own9.on q4
                have q10 := q9.trans q4
                refine hK.out _ _ (KF.out _ bx10 q10) (fun hTill => ?_)
                clear hK K
                (try simp only [Act.put, List.getElem_toArray, List.getElem_cons_zero, List.getElem_cons_succ, List.setIfInBounds_toArray, List.set_cons_zero, List.set_cons_succ])
                refine till_next (i := 11) (o := _) (by kernel_rfl) rfl (fun K hK => ?_)
                go_simp
                have q11 := q10.alloc (.cells #[.int .i64 e1n, .string e1d] 25)
                have bx11 := bx10.alloc (.cells #[.int .i64 e1n, .string e1d] 25)
                have own11 := own10.on ((Q.refl _).alloc (.cells #[.int .i64 e1n, .string e1d] 25))
                refine hK.out _ _ (KF.out _ bx11 q11) (fun hTill => ?_)
                clear hK K
                (try simp only [Act.put, List.getElem_toArray, List.getElem_cons_zero, List.getElem_cons_succ, List.setIfInBounds_toArray, List.set_cons_zero, List.set_cons_succ])
                refine till_next (i := 12) (o := _) (by kernel_rfl) rfl (fun K hK => ?_)
                rw [if_pos (by rfl)]
                refine wp_snoc_part _ _ _ 38 Try.underlying38 rfl (wo.heap.size + 1) _ _ _ ⟨e1n, e1d⟩ rfl rfl (cells_onepart _ ⟨e1n, e1d⟩ _) own11 ?hb ?hl ?_
                case hb => have h5 := bx10.lt; simp; omega
                case hl => omega
                intro v8 w8 o8 g8
                have q12 : Q wo w8 := q11.grown g8 (by have h5 := bx10.lt; simp; omega) (fun k hk => Nat.le_of_succ_le (World.ownsRow.lt own11 k hk).1)
                have bx12 := bx11.same (g8.block _ bx11.lt (fun e => by have := (World.ownsRow.lt own11 _ e.symm).1; omega))
                obtain ⟨A8, n8, c8, rfl⟩ : ∃ A n c, v8 = .slice A n c := by obtain ⟨A, c, e⟩ := o8.form; exact ⟨A, _, c, e⟩
                refine hK.out _ _ (KF.out _ bx12 q12) (fun hTill => ?_)
                clear hK K
                (try simp only [Act.put, List.getElem_toArray, List.getElem_cons_zero, List.getElem_cons_succ, List.setIfInBounds_toArray, List.set_cons_zero, List.set_cons_succ])
                have z2 := bx12.cell 2
                have zf := bx12.frozen 2
                simp only [List.getElem?_toArray, List.getElem?_cons_zero, List.getElem?_cons_succ] at z2
                refine till_take (i := 13) (o := _) (v := ?_) rfl (by kernel_rfl) (by kernel_rfl) (by kernel_rfl) (by kernel_rfl) (by rfl) (fun _ _ _ h => h) (Or.inl ⟨by rfl, ?_⟩) (by assumption) ?_
                rotate_left
                · (intro wx hSw; skip; go_simp; (try with_reducible rfl))
                (try simp only [Act.put, List.getElem_toArray, List.getElem_cons_zero, List.getElem_cons_succ, List.setIfInBounds_toArray, List.set_cons_zero, List.set_cons_succ])
                refine till_last (i := 14) (o := _) (by kernel_rfl) rfl (by rfl) (fun K hK => ?_)
                go_simp
                refine hK.out _ _ ?_
                clear hK K
                (try simp only [Act.put, List.getElem_toArray, List.getElem_cons_zero, List.getElem_cons_succ, List.setIfInBounds_toArray, List.set_cons_zero, List.set_cons_succ])
                refine till_done (by kernel_rfl) ?_ _
                have bxE := bx12.set 2 (.slice A8 n8 c8)
                have oE : OwnP (wo.heap.size + 1) _ _ _ := ownsRow_set (b := wo.heap.size) (i := 2) (u := .slice A8 n8 c8) o8 (by omega)
                have qE := Q.set q12 (Nat.le_refl _) (k := 2) (.slice A8 n8 c8)
                generalize w8.setCell ⟨wo.heap.size, 2, none⟩ (.slice A8 n8 c8) = wE at bxE oE qE ⊢
                clear KF bx9 own9 q9 bx10 own10 q10 bx11 own11 q11 o8 g8 q12 bx12 z2 zf
                go_wp2_with fail
                go_roundw
                case rel => exact ⟨k + 1, _, _, _, _, by omega, by omega, by go_num, by simp [hY], bxE, oE, qE, HY2⟩
                case measure => simp [intOf]; omega
              · have hk3' : ¬ (k : Int) < 31 := by omega
                have hklt : (k : Int) < (n : Int) := by omega
                have HYe : Hid (Y = (L.take 31).map oneP) := Lib.hid (by rw [HY.out, show k = 31 by omega])
                have f0 := bx.cell 0
                have f1 := bx.cell 1
                simp only [List.getElem?_toArray, List.getElem?_cons_zero, List.getElem?_cons_succ] at f0 f1
                have ownq := own.on qy
                have HP1 : Hid (∀ d, Q wr d → F1 w.heap.size d ((⟨xi, key', Y⟩ : Upl), .slice A6 n6 c6)) := Lib.hid fun d qd => ⟨⟨hid, by have := HK'.out; rw [this]; have := fewS_size key; unfold maxLen; show (fewS key).size ≤ _; omega, by unfold maxLen; show Y.length ≤ _; omega⟩, (fun p hp => by rw [HYe.out] at hp; obtain ⟨z, hz, rfl⟩ := List.mem_map.1 hp; exact okP_one (HIN.out _ (List.mem_of_mem_take hz))), OwnP.low (own2.on qd) (by have := q.size; omega)⟩
                have ownb := ownq.on ((Q.refl wr).alloc (.cells #[.int .u64 (xi : Nat), .string key', .slice A6 n6 c6] 40))
                go_wp2_with (at_builtin; refine wpList_snoc_rowF _ rfl _ _ 22 Try.underlying22 rfl w.heap.size wr.heap.size _ M (⟨xi, key', Y⟩, .slice A6 n6 c6) rfl rfl (cells_oneupl wr (⟨xi, key', Y⟩, .slice A6 n6 c6) 40) ownb (HP1.out _ ((Q.refl wr).alloc _)) ?hb ?hl ?_; (case hb => have := (q.trans qy).size; simp; omega); (case hl => omega); intro v6 w6 o6 g6)
                obtain ⟨A7, c7, rfl⟩ := o6.form
                have q7 : Q w w6 := Below.trans (((q.trans qy)).alloc _) g6
                have HXe : Hid (M ++ [⟨xi, key', Y⟩] = (l.take (i + 1)).map fewU) := Lib.hid (by rw [← HX.out, fewU, HYe.out, HK'.out])
                go_wp2_with fail
                go_roundw
                case rel => exact ⟨i + 1, _, _, _, _, rfl, by omega, by omega, by go_num, by simp [hM], o6, q7, HXe⟩
                case measure => simp [intOf]; omega
            · have hklt : ¬ (k : Int) < (n : Int) := by omega
              have HYe : Hid (Y = (L.take 31).map oneP) := Lib.hid (by have h3 := HNL.out; rw [HY.out, List.take_of_length_le (by omega), List.take_of_length_le (by omega)])
              have f0 := bx.cell 0
              have f1 := bx.cell 1
              simp only [List.getElem?_toArray, List.getElem?_cons_zero, List.getElem?_cons_succ] at f0 f1
              have ownq := own.on qy
              have HP1 : Hid (∀ d, Q wr d → F1 w.heap.size d ((⟨xi, key', Y⟩ : Upl), .slice A6 n6 c6)) := Lib.hid fun d qd => ⟨⟨hid, by have := HK'.out; rw [this]; have := fewS_size key; unfold maxLen; show (fewS key).size ≤ _; omega, by unfold maxLen; show Y.length ≤ _; omega⟩, (fun p hp => by rw [HYe.out] at hp; obtain ⟨z, hz, rfl⟩ := List.mem_map.1 hp; exact okP_one (HIN.out _ (List.mem_of_mem_take hz))), OwnP.low (own2.on qd) (by have := q.size; omega)⟩
              have ownb := ownq.on ((Q.refl wr).alloc (.cells #[.int .u64 (xi : Nat), .string key', .slice A6 n6 c6] 40))
              go_wp2_with (at_builtin; refine wpList_snoc_rowF _ rfl _ _ 22 Try.underlying22 rfl w.heap.size wr.heap.size _ M (⟨xi, key', Y⟩, .slice A6 n6 c6) rfl rfl (cells_oneupl wr (⟨xi, key', Y⟩, .slice A6 n6 c6) 40) ownb (HP1.out _ ((Q.refl wr).alloc _)) ?hb ?hl ?_; (case hb => have := (q.trans qy).size; simp; omega); (case hl => omega); intro v6 w6 o6 g6)
              obtain ⟨A7, c7, rfl⟩ := o6.form
              have q7 : Q w w6 := Below.trans (((q.trans qy)).alloc _) g6
              have HXe : Hid (M ++ [⟨xi, key', Y⟩] = (l.take (i + 1)).map fewU) := Lib.hid (by rw [← HX.out, fewU, HYe.out, HK'.out])
              go_wp2_with fail
              go_roundw
              case rel => exact ⟨i + 1, _, _, _, _, rfl, by omega, by omega, by go_num, by simp [hM], o6, q7, HXe⟩
              case measure => simp [intOf]; omega
      · have hn11 : ¬ (i : Int) < 11 := by omega
        have hilt : (i : Int) < (N : Int) := by omega
        have HV : Hid (M = fewL l) := Lib.hid (by rw [HM.out, fewL]; congr 2; omega)
        go_wp2
        go_ret
        exact ⟨_, rfl, by rw [← HV.out]; exact own, q⟩
    · have hilt : ¬ (i : Int) < (N : Int) := by omega
      have HV : Hid (M = fewL l) := Lib.hid (by
        have hN := HN.out
        rw [HM.out, fewL, List.take_of_length_le (by omega), List.take_of_length_le (by omega)])
      go_wp2
      go_ret
      exact ⟨_, rfl, by rw [← HV.out]; exact own, q⟩
theorem fewUp_any (l : List Upl) (v : Value) (w : World) (hl : l.length ≤ maxLen) (ht : Upls w w.heap.size v l) :
    Calls Try.prog 10 #[v] w fun e w' => ∃ v', e = .returned v' ∧ Upls w' w'.heap.size v' (fewL l) ∧ Q w w' :=
  (fewUp_row l v w hl ht).mono fun _ _ ⟨u, h1, h2, h3⟩ => ⟨u, h1, h2.read h3.size, h3⟩
end Go.Proofs.Ytlahccmlnbdekaa
