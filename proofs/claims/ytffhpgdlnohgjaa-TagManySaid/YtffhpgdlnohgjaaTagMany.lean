/-
  Proved: whatever numbers TagMany is called with, it returns true and leaves what it was given as it was. No condition.
-/
import Derived.Test.YtffhpgdlnohgjaaTNums
namespace Go.Proofs.Ytffhpgdlnohgjaa.tagMany
open Go.ChangeShapes Go.WideShapes Go.ChangeAt Go.RowKit
open Go.ChangeMaps (open_string shut_string)
set_option linter.unusedVariables false

attribute [local irreducible] crc more reg manyP hexk cnt manyV
set_option maxHeartbeats 4000000 in
set_option maxRecDepth 100000 in
theorem walk (l : List Nat) (v : Value) (t : Int) (w : World) (n0 : Nums w w.heap.size v l) (z0 : l.length ≤ maxLen) (w1 : (Lit.int .u32 t).wf = true) :
    Calls Try.prog 8 #[v, .int .u32 t] w fun e w' => e = .returned (.bool true) ∧ Q w w' := by
  obtain ⟨t, rfl, ht⟩ := wf32 w1
  clear w1
  obtain ⟨i0, hi, hz0, hz1, hz2⟩ := info_parts info_u32
  by_cases hbig : 101 < l.length
  · obtain ⟨A, c, rfl, hcap, -, f⟩ := n0
    have n0 : Nums w w.heap.size (.slice A l.length c) l := ⟨A, c, rfl, hcap, by intro e; subst e; obtain ⟨a, e, -⟩ := f 0 (by omega); simp at e, f⟩
    obtain ⟨a, rfl, -⟩ := f 0 (by omega)
    clear f
    have n1 := n0.take (k := 101) (by omega)
    have hL : (l.take 101).length = 101 := by rw [List.length_take]; omega
    obtain ⟨L, hL'⟩ : ∃ L, L = l.take 101 := ⟨_, rfl⟩
    rw [← hL'] at n1 hL
    clear n0 hL'
    have hc1 : (101 : Int) ≤ (c : Int) := by omega
    have hb : (101 : Int) < (l.length : Int) := by omega
    have hlt : ∀ n ∈ L ++ [t], n < 4294967296 := by
      intro n hn
      rcases List.mem_append.1 hn with e | e
      · exact n1.lt n e
      · rw [List.mem_singleton.1 e]; exact ht
    have M1 := Lib.hid (many_any L _ w (by first | omega | simp) n1)
    rw [manyV_no (by first | omega | simp)] at M1
    have M2 := Lib.hid fun v w h => many_any (L ++ [t]) v w (by simp; try omega) h
    rw [manyV_no (by simp; omega)] at M2
    go_enter Try.func8, Try.ntmps8
    go_wp2_with fail
    refine (M1.out).mono ?_
    rintro e w1 ⟨rfl, q1⟩
    have o1 := OwnN.lit w1
    have c1 := (n1.on (q1.alloc (.cells #[] 22))).cells
    go_wp2_with (first | (at_builtin; refine wpList_append_own _ rfl _ _ 28 rfl w1.heap.size 22 i0 (.int .u32 0) 1 4 Try.underlying28 hi hz0 hz1 hz2 rfl (by decide) _ _ _ rfl o1 a 101 c (u32s L) rfl (by rw [u32s_length, hL, Nat.mul_one]) c1 (u32s_one _) (by unfold maxLen; first | omega | (simp; try omega)) (by first | omega | (simp; try omega)) (by simp) ?_; intro v2 w2 g1 g2 _; have r1 : OwnN w1.heap.size w2 v2 L := OwnN.onto (L := []) (M := L) g1 hL.symm; have b1 := grown_on ((Below.refl _ w1).alloc (Nat.le_refl _) _) (by simp) o1 g2; clear g1 g2) | (at_builtin; refine wpList_append_own _ rfl _ _ 28 rfl w1.heap.size 22 i0 (.int .u32 0) 1 4 Try.underlying28 hi hz0 hz1 hz2 rfl (by decide) _ _ _ rfl (World.ownsRow.alloc r1 _) ⟨_, 0, none⟩ 1 1 (u32s [t]) rfl rfl (cell_one _ _ _) (u32s_one _) (by unfold maxLen; first | omega | (simp; try omega)) (by first | omega | (simp; try omega)) (Nat.le_trans b1.size (by simp)) ?_; intro v3 w3 g3 g4 _; have r2 : OwnN w1.heap.size w3 v3 (L ++ [t]) := OwnN.onto (L := L) (M := [t]) g3 rfl; have b2 := grown_on (b1.alloc b1.size _) (Nat.le_trans b1.size (by simp)) (World.ownsRow.alloc r1 _) g4; have N3 := r2.nums hlt; clear g3 g4))
    refine (M2.out _ _ N3).mono ?_
    rintro e w4 ⟨rfl, q4⟩
    have q5 : Q w w4 := (Q.trans q1 b2).trans q4
    go_wp2_with fail
    refine (awake_any _).mono ?_
    rintro e w9 ⟨rfl, q9⟩
    go_wp2
    go_ret
    exact ⟨rfl, q5.trans q9⟩
  · obtain ⟨A, c, rfl, hcap, hA, f⟩ := n0
    have n1 : Nums w w.heap.size (.slice A l.length c) l := ⟨A, c, rfl, hcap, hA, f⟩
    have hb : ¬ ((101 : Int) < (l.length : Int)) := by omega
    cases A with
    | none =>
      have hl : l = [] := by
        cases l with
        | nil => rfl
        | cons x r => obtain ⟨a, e, -⟩ := f 0 (by simp); simp at e
      obtain rfl := hA rfl
      subst hl
      clear f hA hb hbig hcap z0
      simp only [List.length_nil] at n1 ⊢
      have hlt : ∀ n ∈ ([] : List Nat) ++ [t], n < 4294967296 := by
        intro n hn
        rcases List.mem_append.1 hn with e | e
        · exact n1.lt n e
        · rw [List.mem_singleton.1 e]; exact ht
      have M1 := Lib.hid (many_any ([] : List Nat) _ w (by first | omega | simp) n1)
      rw [manyV_no (by first | omega | simp)] at M1
      have M2 := Lib.hid fun v w h => many_any (([] : List Nat) ++ [t]) v w (by simp; try omega) h
      rw [manyV_yes (by simp) (by simp; try omega)] at M2
      go_enter Try.func8, Try.ntmps8
      go_wp2_with fail
      refine (M1.out).mono ?_
      rintro e w1 ⟨rfl, q1⟩
      have o1 := OwnN.lit w1
      go_wp2_with (first | (at_builtin; refine wpList_append_own_none rfl _ _ 28 rfl w1.heap.size 22 i0 1 Try.underlying28 hi _ _ _ rfl o1 rfl ?_; have r1 := o1; have b1 := (Below.refl w1.heap.size w1).alloc (Nat.le_refl _) (.cells #[] 22); clear o1; obtain ⟨w2, hw2⟩ : ∃ w2, w2 = w1.alloc (.cells #[] 22) := ⟨_, rfl⟩; rw [← hw2] at r1 b1 ⊢; clear hw2) | (at_builtin; refine wpList_append_own _ rfl _ _ 28 rfl w1.heap.size 22 i0 (.int .u32 0) 1 4 Try.underlying28 hi hz0 hz1 hz2 rfl (by decide) _ _ _ rfl (World.ownsRow.alloc r1 _) ⟨_, 0, none⟩ 1 1 (u32s [t]) rfl rfl (cell_one _ _ _) (u32s_one _) (by unfold maxLen; first | omega | (simp; try omega)) (by first | omega | (simp; try omega)) (Nat.le_trans b1.size (by simp)) ?_; intro v3 w3 g3 g4 _; have r2 : OwnN w1.heap.size w3 v3 (([] : List Nat) ++ [t]) := OwnN.onto (L := ([] : List Nat)) (M := [t]) g3 rfl; have b2 := grown_on (b1.alloc b1.size _) (Nat.le_trans b1.size (by simp)) (World.ownsRow.alloc r1 _) g4; have N3 := r2.nums hlt; clear g3 g4))
      refine (M2.out _ _ N3).mono ?_
      rintro e w4 ⟨rfl, q4⟩
      have q5 : Q w w4 := (Q.trans q1 b2).trans q4
      go_wp2_with fail
      refine (awake_any _).mono ?_
      rintro e w9 ⟨rfl, q9⟩
      go_wp2
      go_ret
      exact ⟨rfl, q5.trans q9⟩
    | some a =>
      clear f hA z0
      obtain ⟨K, hL⟩ : ∃ K, l.length = K := ⟨_, rfl⟩
      rw [hL] at n1 hb hcap hbig ⊢
      obtain ⟨L, hL'⟩ : ∃ L, L = l := ⟨_, rfl⟩
      rw [← hL'] at n1 hL
      clear hL'
      have hlt : ∀ n ∈ L ++ [t], n < 4294967296 := by
        intro n hn
        rcases List.mem_append.1 hn with e | e
        · exact n1.lt n e
        · rw [List.mem_singleton.1 e]; exact ht
      by_cases k0 : K = 0
      · have hK : ((K : Int) == 0) = true := by simp [k0]
        have M1 := Lib.hid (many_any L _ w (by first | omega | simp) n1)
        rw [manyV_no (by first | omega | simp)] at M1
        have M2 := Lib.hid fun v w h => many_any (L ++ [t]) v w (by simp; try omega) h
        rw [manyV_yes (by simp) (by simp; try omega)] at M2
        clear k0
        go_enter Try.func8, Try.ntmps8
        go_wp2_with fail
        refine (M1.out).mono ?_
        rintro e w1 ⟨rfl, q1⟩
        have o1 := OwnN.lit w1
        have c1 := (n1.on (q1.alloc (.cells #[] 22))).cells
        go_wp2_with (first | (at_builtin; refine wpList_append_own _ rfl _ _ 28 rfl w1.heap.size 22 i0 (.int .u32 0) 1 4 Try.underlying28 hi hz0 hz1 hz2 rfl (by decide) _ _ _ rfl o1 a K c (u32s L) rfl (by rw [u32s_length, hL, Nat.mul_one]) c1 (u32s_one _) (by unfold maxLen; first | omega | (simp; try omega)) (by first | omega | (simp; try omega)) (by simp) ?_; intro v2 w2 g1 g2 _; have r1 : OwnN w1.heap.size w2 v2 L := OwnN.onto (L := []) (M := L) g1 hL.symm; have b1 := grown_on ((Below.refl _ w1).alloc (Nat.le_refl _) _) (by simp) o1 g2; clear g1 g2) | (at_builtin; refine wpList_append_own _ rfl _ _ 28 rfl w1.heap.size 22 i0 (.int .u32 0) 1 4 Try.underlying28 hi hz0 hz1 hz2 rfl (by decide) _ _ _ rfl (World.ownsRow.alloc r1 _) ⟨_, 0, none⟩ 1 1 (u32s [t]) rfl rfl (cell_one _ _ _) (u32s_one _) (by unfold maxLen; first | omega | (simp; try omega)) (by first | omega | (simp; try omega)) (Nat.le_trans b1.size (by simp)) ?_; intro v3 w3 g3 g4 _; have r2 : OwnN w1.heap.size w3 v3 (L ++ [t]) := OwnN.onto (L := L) (M := [t]) g3 rfl; have b2 := grown_on (b1.alloc b1.size _) (Nat.le_trans b1.size (by simp)) (World.ownsRow.alloc r1 _) g4; have N3 := r2.nums hlt; clear g3 g4))
        refine (M2.out _ _ N3).mono ?_
        rintro e w4 ⟨rfl, q4⟩
        have q5 : Q w w4 := (Q.trans q1 b2).trans q4
        go_wp2_with fail
        refine (awake_any _).mono ?_
        rintro e w9 ⟨rfl, q9⟩
        go_wp2
        go_ret
        exact ⟨rfl, q5.trans q9⟩
      · by_cases k1 : K = 101
        · subst k1
          have M1 := Lib.hid (many_any L _ w (by first | omega | simp) n1)
          rw [manyV_no (by first | omega | simp)] at M1
          have M2 := Lib.hid fun v w h => many_any (L ++ [t]) v w (by simp; try omega) h
          rw [manyV_no (by simp; omega)] at M2
          go_enter Try.func8, Try.ntmps8
          go_wp2_with fail
          refine (M1.out).mono ?_
          rintro e w1 ⟨rfl, q1⟩
          have o1 := OwnN.lit w1
          have c1 := (n1.on (q1.alloc (.cells #[] 22))).cells
          go_wp2_with (first | (at_builtin; refine wpList_append_own _ rfl _ _ 28 rfl w1.heap.size 22 i0 (.int .u32 0) 1 4 Try.underlying28 hi hz0 hz1 hz2 rfl (by decide) _ _ _ rfl o1 a 101 c (u32s L) rfl (by rw [u32s_length, hL, Nat.mul_one]) c1 (u32s_one _) (by unfold maxLen; first | omega | (simp; try omega)) (by first | omega | (simp; try omega)) (by simp) ?_; intro v2 w2 g1 g2 _; have r1 : OwnN w1.heap.size w2 v2 L := OwnN.onto (L := []) (M := L) g1 hL.symm; have b1 := grown_on ((Below.refl _ w1).alloc (Nat.le_refl _) _) (by simp) o1 g2; clear g1 g2) | (at_builtin; refine wpList_append_own _ rfl _ _ 28 rfl w1.heap.size 22 i0 (.int .u32 0) 1 4 Try.underlying28 hi hz0 hz1 hz2 rfl (by decide) _ _ _ rfl (World.ownsRow.alloc r1 _) ⟨_, 0, none⟩ 1 1 (u32s [t]) rfl rfl (cell_one _ _ _) (u32s_one _) (by unfold maxLen; first | omega | (simp; try omega)) (by first | omega | (simp; try omega)) (Nat.le_trans b1.size (by simp)) ?_; intro v3 w3 g3 g4 _; have r2 : OwnN w1.heap.size w3 v3 (L ++ [t]) := OwnN.onto (L := L) (M := [t]) g3 rfl; have b2 := grown_on (b1.alloc b1.size _) (Nat.le_trans b1.size (by simp)) (World.ownsRow.alloc r1 _) g4; have N3 := r2.nums hlt; clear g3 g4))
          refine (M2.out _ _ N3).mono ?_
          rintro e w4 ⟨rfl, q4⟩
          have q5 : Q w w4 := (Q.trans q1 b2).trans q4
          go_wp2_with fail
          refine (awake_any _).mono ?_
          rintro e w9 ⟨rfl, q9⟩
          go_wp2
          go_ret
          exact ⟨rfl, q5.trans q9⟩
        · by_cases k2 : K = 100
          · subst k2
            have M1 := Lib.hid (many_any L _ w (by first | omega | simp) n1)
            rw [manyV_yes (by omega) (by omega)] at M1
            have M2 := Lib.hid fun v w h => many_any (L ++ [t]) v w (by simp; try omega) h
            rw [manyV_no (by simp; omega)] at M2
            have hs := many_size L (by omega)
            have hs9 := many_long L
            have h8 : 8 < (mk (manyP L)).size := by omega
            have hd := many_dash L h8
            have hcut := many_cut L
            have R := Lib.hid fun w => read_d (mk (manyP L)) w (by omega)
            rw [bl_mk, readP_many (by omega) (by omega), readV, hL] at R
            have T := Lib.hid fun w => text_d (crc (L.flatMap oc4)) w (crc_lt _)
            have hne : ((mk (manyP L)).toList == (⟨#[]⟩ : ByteArray).toList) = false := by
              rw [eq_texts]
              exact decide_eq_false (fun e => by rw [e] at h8; exact absurd h8 (by decide))
            have n9 : (⟨#[]⟩ : ByteArray).toList = [] := by kernel_rfl
            rw [n9] at hne
            obtain ⟨S, hS⟩ : ∃ S, S = mk (manyP L) := ⟨_, rfl⟩
            obtain ⟨x, hx⟩ : ∃ x, x = mk (hexk 8 (crc (L.flatMap oc4))) := ⟨_, rfl⟩
            obtain ⟨n, hn⟩ : ∃ n, n = crc (L.flatMap oc4) := ⟨_, rfl⟩
            have h8' : 8 < S.size := by rw [hS]; exact h8
            have hd' : S[8] = 45 := by subst hS; exact hd
            clear hd h8
            simp only [← hS] at M1 R hs hs9 hcut hne
            rw [← hx] at T hcut
            rw [← hn] at T R
            have p1 : (8 : Int) < (S.size : Int) := by omega
            have p2 : ¬ ((S.size : Int) < 9) := by omega
            have p3 : (8 : Int) ≤ (S.size : Int) := by omega
            clear hS hx hn hs9
            go_enter Try.func8, Try.ntmps8
            go_wp2_with fail
            refine (M1.out).mono ?_
            rintro e w1 ⟨rfl, q1⟩
            have o1 := OwnN.lit w1
            have c1 := (n1.on (q1.alloc (.cells #[] 22))).cells
            go_wp2_with (first | (at_builtin; refine wpList_append_own _ rfl _ _ 28 rfl w1.heap.size 22 i0 (.int .u32 0) 1 4 Try.underlying28 hi hz0 hz1 hz2 rfl (by decide) _ _ _ rfl o1 a 100 c (u32s L) rfl (by rw [u32s_length, hL, Nat.mul_one]) c1 (u32s_one _) (by unfold maxLen; first | omega | (simp; try omega)) (by first | omega | (simp; try omega)) (by simp) ?_; intro v2 w2 g1 g2 _; have r1 : OwnN w1.heap.size w2 v2 L := OwnN.onto (L := []) (M := L) g1 hL.symm; have b1 := grown_on ((Below.refl _ w1).alloc (Nat.le_refl _) _) (by simp) o1 g2; clear g1 g2) | (at_builtin; refine wpList_append_own _ rfl _ _ 28 rfl w1.heap.size 22 i0 (.int .u32 0) 1 4 Try.underlying28 hi hz0 hz1 hz2 rfl (by decide) _ _ _ rfl (World.ownsRow.alloc r1 _) ⟨_, 0, none⟩ 1 1 (u32s [t]) rfl rfl (cell_one _ _ _) (u32s_one _) (by unfold maxLen; first | omega | (simp; try omega)) (by first | omega | (simp; try omega)) (Nat.le_trans b1.size (by simp)) ?_; intro v3 w3 g3 g4 _; have r2 : OwnN w1.heap.size w3 v3 (L ++ [t]) := OwnN.onto (L := L) (M := [t]) g3 rfl; have b2 := grown_on (b1.alloc b1.size _) (Nat.le_trans b1.size (by simp)) (World.ownsRow.alloc r1 _) g4; have N3 := r2.nums hlt; clear g3 g4))
            refine (M2.out _ _ N3).mono ?_
            rintro e w4 ⟨rfl, q4⟩
            have q5 : Q w w4 := (Q.trans q1 b2).trans q4
            go_wp2_with fail
            refine (R.out _).mono ?_
            rintro e w5 ⟨rfl, d5⟩
            go_wp2
            refine wp_region_quiet_lit (by kernel_rfl) (by kernel_rfl) ?_
            iterate 25 quiet_step ((first | exact quiet_d (T.out _)))
            refine wpQuiet_nil ?_
            rintro _ ⟨nq, rfl⟩
            go_wp2_with fail
            refine (awake_any _).mono ?_
            rintro e w9 ⟨rfl, q9⟩
            go_wp2
            go_ret
            exact ⟨rfl, ((q5.trans d5.q).drewN _).trans q9⟩
          · have k3 : (K : Int) < 100 := by omega
            have M1 := Lib.hid (many_any L _ w (by first | omega | simp) n1)
            rw [manyV_yes (by omega) (by omega)] at M1
            have M2 := Lib.hid fun v w h => many_any (L ++ [t]) v w (by simp; try omega) h
            rw [manyV_yes (by simp) (by simp; try omega)] at M2
            have hs := many_size L (by omega)
            have hs9 := many_long L
            have h8 : 8 < (mk (manyP L)).size := by omega
            have hd := many_dash L h8
            have hcut := many_cut L
            have R := Lib.hid fun w => read_d (mk (manyP L)) w (by omega)
            rw [bl_mk, readP_many (by omega) (by omega), readV, hL] at R
            have T := Lib.hid fun w => text_d (crc (L.flatMap oc4)) w (crc_lt _)
            have hne : ((mk (manyP L)).toList == (mk (manyP (L ++ [t]))).toList) = false := by
              rw [eq_texts]
              exact decide_eq_false (fun e => many_ne (l := L) (m := L ++ [t]) (by omega) (by omega) (by simp) (by simp; omega) (by simp) (congrArg bl e))
            obtain ⟨S, hS⟩ : ∃ S, S = mk (manyP L) := ⟨_, rfl⟩
            obtain ⟨x, hx⟩ : ∃ x, x = mk (hexk 8 (crc (L.flatMap oc4))) := ⟨_, rfl⟩
            obtain ⟨n, hn⟩ : ∃ n, n = crc (L.flatMap oc4) := ⟨_, rfl⟩
            have h8' : 8 < S.size := by rw [hS]; exact h8
            have hd' : S[8] = 45 := by subst hS; exact hd
            clear hd h8
            simp only [← hS] at M1 R hs hs9 hcut hne
            rw [← hx] at T hcut
            rw [← hn] at T R
            obtain ⟨S2, hS2⟩ : ∃ S, S = mk (manyP (L ++ [t])) := ⟨_, rfl⟩
            rw [← hS2] at M2 hne
            clear hS2
            have p1 : (8 : Int) < (S.size : Int) := by omega
            have p2 : ¬ ((S.size : Int) < 9) := by omega
            have p3 : (8 : Int) ≤ (S.size : Int) := by omega
            clear hS hx hn hs9
            go_enter Try.func8, Try.ntmps8
            go_wp2_with fail
            refine (M1.out).mono ?_
            rintro e w1 ⟨rfl, q1⟩
            have o1 := OwnN.lit w1
            have c1 := (n1.on (q1.alloc (.cells #[] 22))).cells
            go_wp2_with (first | (at_builtin; refine wpList_append_own _ rfl _ _ 28 rfl w1.heap.size 22 i0 (.int .u32 0) 1 4 Try.underlying28 hi hz0 hz1 hz2 rfl (by decide) _ _ _ rfl o1 a K c (u32s L) rfl (by rw [u32s_length, hL, Nat.mul_one]) c1 (u32s_one _) (by unfold maxLen; first | omega | (simp; try omega)) (by first | omega | (simp; try omega)) (by simp) ?_; intro v2 w2 g1 g2 _; have r1 : OwnN w1.heap.size w2 v2 L := OwnN.onto (L := []) (M := L) g1 hL.symm; have b1 := grown_on ((Below.refl _ w1).alloc (Nat.le_refl _) _) (by simp) o1 g2; clear g1 g2) | (at_builtin; refine wpList_append_own _ rfl _ _ 28 rfl w1.heap.size 22 i0 (.int .u32 0) 1 4 Try.underlying28 hi hz0 hz1 hz2 rfl (by decide) _ _ _ rfl (World.ownsRow.alloc r1 _) ⟨_, 0, none⟩ 1 1 (u32s [t]) rfl rfl (cell_one _ _ _) (u32s_one _) (by unfold maxLen; first | omega | (simp; try omega)) (by first | omega | (simp; try omega)) (Nat.le_trans b1.size (by simp)) ?_; intro v3 w3 g3 g4 _; have r2 : OwnN w1.heap.size w3 v3 (L ++ [t]) := OwnN.onto (L := L) (M := [t]) g3 rfl; have b2 := grown_on (b1.alloc b1.size _) (Nat.le_trans b1.size (by simp)) (World.ownsRow.alloc r1 _) g4; have N3 := r2.nums hlt; clear g3 g4))
            refine (M2.out _ _ N3).mono ?_
            rintro e w4 ⟨rfl, q4⟩
            have q5 : Q w w4 := (Q.trans q1 b2).trans q4
            go_wp2_with fail
            refine (R.out _).mono ?_
            rintro e w5 ⟨rfl, d5⟩
            go_wp2
            refine wp_region_quiet_lit (by kernel_rfl) (by kernel_rfl) ?_
            iterate 25 quiet_step ((first | exact quiet_d (T.out _)))
            refine wpQuiet_nil ?_
            rintro _ ⟨nq, rfl⟩
            go_wp2_with fail
            refine (awake_any _).mono ?_
            rintro e w9 ⟨rfl, q9⟩
            go_wp2
            go_ret
            exact ⟨rfl, ((q5.trans d5.q).drewN _).trans q9⟩

set_option maxRecDepth 100000 in
theorem lifted (os : Os) (started : os.Started) (H : Type) (enc : TypeId × Value → H) :
    ReturnsInHanded {} Try.checked os 8 .any (Rows.tagManySpec.pre6 enc Try.prog Try.f8 Rows.tagManyRow.domain false) (Rows.tagManySpec.post enc Try.prog Try.f8 false true false false) := by
  refine returnsInHanded_of_change (C := Try.checked) own started (by kernel_rfl) Try.func8
    (ChangeSpec.witness6 (enc := enc) (C := Try.checked) false ⟨#[], #[.slice none 0 0, .int .u32 0], []⟩ 8 (by kernel_rfl) (by kernel_rfl) (by kernel_rfl) (by kernel_rfl)) ?_
  intro W base args ds gs before hval0 hW hcnd _
  have hval : ∀ (j : Nat) t v, Try.f8.params[j]? = some t → args[j]? = some v → Value.okWide Try.prog W .any base t v := hval0
  have hW' := hW
  obtain ⟨p, q, hA0, hV, rfl, hfz, hnd⟩ := hW
  have hA : DataW.TrodAll enc Try.prog W 0 (fun _ => true) true Try.f8.params.toList args.toList ds p := hA0
  rw [Try.params8] at hA hval
  obtain ⟨v0, vs0, d0, ds0, p0, q0, hargs, rfl, rfl, h0, r0⟩ := trodAll_cons hA
  obtain ⟨v1, vs1, d1, ds1, p1, q1, rfl, rfl, rfl, h1, r1⟩ := trodAll_cons r0
  obtain ⟨rfl, rfl, rfl⟩ := trodAll_nil r1
  obtain rfl : args = #[v0, v1] := by cases args; simp_all
  obtain ⟨rfl, rfl⟩ := trodVars_none hV
  clear hA0 hval0
  simp only [List.append_nil] at hW'
  have hlt : ∀ x ∈ p0 ++ p1, x.block < W.heap.size := fun x hx => by simpa using hW'.lt x (by simpa using hx)
  obtain ⟨l0, n0, z0⟩ := open_nums (hval 0 28 v0 rfl rfl) h0
  obtain ⟨a1, rfl, -, -, w1⟩ := open_int Try.underlying22 (hval 1 22 v1 rfl rfl) h1
  refine (walk l0 v0 a1 W n0 z0 w1).mono fun e W' ⟨he, bel⟩ => ?_
  subst he
  refine ⟨_, rfl, _, _, _, [], _, [], hW', trodAll_mk1 (shut_bool Try.underlying4 _), (trodAll_cons_mk (Below.trod laid (by kernel_rfl) (of_decide_eq_true (by kernel_rfl)) h0 bel (fun x hx => hlt x (by simp [hx]))) (trodAll_cons_mk (Below.trod laid (by kernel_rfl) (of_decide_eq_true (by kernel_rfl)) h1 bel (fun x hx => hlt x (by simp [hx]))) trodAll_mk0)), rfl, Below.frame bel _, fun h => by cases h⟩

theorem over : Rows.tagManyRow.holds Try.pinned (OpenSpec.ofChange Rows.tagManySpec) :=
  OpenClaim.holds_of_wide 8 Try.f8 rfl rfl rfl rfl rfl rfl rfl ⟨rfl, rfl, rfl, rfl, rfl⟩ rfl rfl rfl rfl rfl (by kernel_rfl) Try.func8 (by kernel_rfl)
    (of_decide_eq_true (by kernel_rfl)) (by unfold Func.isWrapper; first | (rw [if_pos (by decide +kernel)]; kernel_rfl) | (rw [if_neg (by decide +kernel)]; exact ⟨rfl, rfl⟩))
    (fun os started H enc _ => lifted os started H enc)

theorem proved : Rows.TagManySaid := over
#print axioms proved
end Go.Proofs.Ytffhpgdlnohgjaa.tagMany
