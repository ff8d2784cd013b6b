/-
  Proved: whatever tear ZoneTorn is called with, it returns true and leaves what it was given as it was. No condition.
-/
import Derived.Test.YteoondmakdghhaaNn
namespace Go.Proofs.Yteoondmakdghhaa.zoneTorn
set_option maxRecDepth 100000
open Go.ChangeShapes Go.WideShapes Go.ChangeAt Go.RowKit
open Go.ChangeMaps (open_string shut_string)
set_option linter.unusedVariables false
set_option linter.unusedSimpArgs false

theorem ints_lit {w : World} {g k : Nat} {t : TypeId} (h : Bx w g t #[.int .i64 0, .int .i64 k]) (hk : k ≤ 1000) : Ints w w.heap.size (.slice (some ⟨g, 0, none⟩) 2 2) [0, (k : Int)] := by
  refine ⟨_, _, rfl, fun x hx => ?_, fun i hi => ⟨⟨g, 0, none⟩, rfl, h.lt, ?_⟩⟩
  · simp only [List.mem_cons, List.not_mem_nil, or_false] at hx
    unfold okI64
    rcases hx with rfl | rfl <;> omega
  · rw [add_flat, h.cell]
    match i, hi with
    | 0, _ => rfl
    | 1, _ => rfl
theorem tn_new : newD 2 9 1 = (⟨[noZn, noZn], 9, 1, -1, false, 0⟩, 0) := rfl
def tnX (c n : Nat) : Dv := ⟨[noZn, ⟨List.replicate n (octsB c 1), 0, false⟩], 9, 1, -1, false, 0⟩
theorem tn_may0 : mayD ⟨[noZn, noZn], 9, 1, -1, false, 0⟩ = true := by decide
theorem tn_app {c n : Nat} (h1 : 1 ≤ n) (h5 : n ≤ 5) : appD ⟨[noZn, noZn], 9, 1, -1, false, 0⟩ 1 (octsB c n) = (tnX c n, 0) := by
  have hs := octsB_size c n
  have hd : (octsB c n).size / 64 = n := by rw [hs]; omega
  unfold appD
  rw [if_neg (by rw [hs, tn_may0]; rintro (h | h | h); simp at h; omega; omega), if_pos (by unfold hasZ; simp), hd]
  have hat : atZn ⟨[noZn, noZn], 9, 1, -1, false, 0⟩ (1 : Int).toNat = noZn := rfl
  have hne : blocksOf (octsB c n) n ≠ [] := blocks_some (by omega)
  rw [hat, if_neg (by rintro (h | h | h); simp [noZn] at h; simp [noZn] at h; omega; exact absurd h.2 (by decide)), write_free _ _ _ _ rfl rfl hne, blocks_rep c n n (Nat.le_refl _)]
  have hn9 : ¬ ((0 : Int) + (n : Int) = 9) := by omega
  simp [setZn, tnX, noZn]
  omega
theorem tn_may {c n : Nat} (h1 : 1 ≤ n) (h5 : n ≤ 5) : mayD (tnX c n) = true := by
  refine mayD_iff.2 ⟨by simp [tnX], by simp [tnX], by simp [tnX], by simp [tnX], by simp [tnX], by simp [tnX], by simp [tnX], fun z hz => ?_, ?_⟩
  · simp only [tnX, List.mem_cons, List.not_mem_nil, or_false] at hz ⊢
    rcases hz with rfl | rfl
    · exact okZn_iff.2 ⟨by simp [noZn], by simp [noZn], by simp [noZn], by simp [noZn], by simp [noZn], by simp [noZn]⟩
    · refine okZn_iff.2 ⟨by simp; omega, by simp, by simp, fun s hs => ?_, fun e => ?_, fun e => rfl⟩
      · rw [(List.mem_replicate.1 hs).2, octsB_size]
      · simp at e; omega
  · show ((openN (tnX c n).zs : Nat) : Int) ≤ 1
    have : openN (tnX c n).zs ≤ 1 := by
      unfold openN tnX
      simp only [List.filter_cons]
      have h0 : isOpen noZn = false := rfl
      rw [h0]
      simp only [Bool.false_eq_true, if_false, List.filter_nil]
      split <;> simp
    omega
theorem tn_crash {c n k : Nat} {cut : Int} (h1 : 1 ≤ n) (h5 : n ≤ 5) (hk : k ≤ n) : ∃ z0 z1 : Zn, (crashD (tnX c n) ⟨[0, (k : Int)], 1, cut⟩).zs = [z0, z1] ∧ z0.b = [] ∧ z1.b = List.replicate k (octsB c 1) ++ (if 0 < cut ∧ k < n then [tearB (octsB c 1) cut] else []) := by
  refine ⟨crashZ ⟨[0, (k : Int)], 1, cut⟩ 0 noZn, crashZ ⟨[0, (k : Int)], 1, cut⟩ 1 ⟨List.replicate n (octsB c 1), 0, false⟩, ?_, ?_, ?_⟩
  · rw [crash_zs (tn_may h1 h5)]; rfl
  · show crashB _ 0 noZn = []
    unfold crashB noZn
    simp
  · exact torn_b hk
set_option maxHeartbeats 16000000 in
set_option maxRecDepth 100000 in
theorem walk (x : Tr) (w : World) (hx : okT x) : Calls Try.prog 6 #[trV x] w fun e w' => e = .returned (.bool true) ∧ Q w w' := by
  obtain ⟨c, many, keep, cut⟩ := x
  obtain ⟨hc, hm, hkp, hcut⟩ := hx
  unfold okI64 at hcut
  simp only at hc hm hkp hcut
  rw [trV]
  obtain ⟨n, hn⟩ : ∃ n, n = 1 + many % 5 := ⟨_, rfl⟩
  obtain ⟨k, hk⟩ : ∃ k, k = keep % (n + 1) := ⟨_, rfl⟩
  have hn1 : 1 ≤ n := by omega
  have hn5 : n ≤ 5 := by omega
  have hkn : k ≤ n := by have := Nat.mod_lt keep (show 0 < n + 1 by omega); omega
  obtain ⟨m5, hm5⟩ : ∃ m, m = many % 5 := ⟨_, rfl⟩
  have em : (many : Int).tmod 5 = (m5 : Int) := by rw [show (5 : Int) = ((5 : Nat) : Int) by rfl, ← Int.ofNat_tmod, hm5]
  have em2 : (many : Int) % 5 = (m5 : Int) := by omega
  have en : (1 : Int) + (m5 : Int) = (n : Int) := by omega
  have ek : (keep : Int).tmod ((n : Int) + 1) = (k : Int) := by rw [show (n : Int) + 1 = ((n + 1 : Nat) : Int) by rfl, ← Int.ofNat_tmod, hk]
  have ek2 : (keep : Int) % ((n : Int) + 1) = (k : Int) := by rw [show (n : Int) + 1 = ((n + 1 : Nat) : Int) by rfl, hk]; omega
  have ek3 : ¬ ((n : Int) + 1 = 0) := by omega
  have hk5 : k ≤ 5 := by omega
  have hm52 : m5 < 5 := by omega
  have CN := Lib.hid (fun y => dev_c (d := ⟨[noZn, noZn], 9, 1, -1, false, 0⟩) (k := 0) (ki := 0) (n := 2) (newZ_any 2 9 1 y) tn_new rfl rfl)
  have CA := Lib.hid (fun y => all_any c n y hc hn1 (by omega))
  have sm0 : smD ⟨[noZn, noZn], 9, 1, -1, false, 0⟩ := may_sm tn_may0
  have CPA := Lib.hid (fun (y : World) (v : Value) (h : Zns y y.heap.size v [noZn, noZn]) => dev_c (d := tnX c n) (k := 0) (ki := 0) (n := 2) (appZ_any ⟨[noZn, noZn], 9, 1, -1, false, 0⟩ v 1 (octsB c n) y sm0 (by unfold okN okI64; simp) (by rw [octsB_size]; omega) h) (tn_app hn1 hn5) rfl rfl)
  have smX : smD (tnX c n) := may_sm (tn_may hn1 hn5)
  have CC := Lib.hid (fun (y : World) (v KV : Value) (h : Zns y y.heap.size v (tnX c n).zs) (h2 : Ints y y.heap.size KV [0, (k : Int)]) => crashZ_any (tnX c n) v ⟨[0, (k : Int)], 1, cut⟩ KV y smX h h2)
  obtain ⟨z0, z1, hy1, hy2, hy3⟩ := tn_crash (cut := cut) (c := c) hn1 hn5 hkn
  have HZ1 := Lib.hid hy3
  have HZ0 := Lib.hid hy2
  obtain ⟨Y, hY⟩ : ∃ y, y = crashD (tnX c n) ⟨[0, (k : Int)], 1, cut⟩ := ⟨_, rfl⟩
  rw [← hY] at CC hy1
  have HY := Lib.hid hy1
  have HXZ : Hid ((tnX c n).zs = (tnX c n).zs) := Lib.hid rfl
  obtain ⟨XZ, hXZ⟩ : ∃ z, z = (tnX c n).zs := ⟨_, rfl⟩
  unfold tnX dvV at CPA CC
  simp only [dvV] at CPA CC CN
  have HXQ : Hid (XZ = [noZn, ⟨List.replicate n (octsB c 1), 0, false⟩]) := Lib.hid (by rw [hXZ]; rfl)
  rw [← HXQ.out] at CPA CC
  obtain ⟨OB, hOB⟩ : ∃ s, s = octsB c n := ⟨_, rfl⟩
  rw [← hOB] at CA CPA
  clear hXZ HXZ HXQ sm0 smX hOB hY hy1 hy2 hy3 hk hn hm5
  have b0 := Bx.new w 55 #[.int .u8 (c : Nat), .int .u8 (many : Nat), .int .u8 (keep : Nat), .int .i64 cut]
  have q0 := (Q.refl w).alloc (.cells #[.int .u8 (c : Nat), .int .u8 (many : Nat), .int .u8 (keep : Nat), .int .i64 cut] 55)
  obtain ⟨W0, hW0⟩ : ∃ z, z = w.alloc (.cells #[.int .u8 (c : Nat), .int .u8 (many : Nat), .int .u8 (keep : Nat), .int .i64 cut] 55) := ⟨_, rfl⟩
  rw [← hW0] at b0 q0
  have B0 := Lib.hid b0
  have Q0 := Lib.hid q0
  obtain ⟨t0, t1, t2, t3⟩ : W0.cell? ⟨w.heap.size, 0, none⟩ = some (.int .u8 (c : Nat)) ∧ W0.cell? ⟨w.heap.size, 1, none⟩ = some (.int .u8 (many : Nat)) ∧ W0.cell? ⟨w.heap.size, 2, none⟩ = some (.int .u8 (keep : Nat)) ∧ W0.cell? ⟨w.heap.size, 3, none⟩ = some (.int .i64 cut) := ⟨b0.cell 0, b0.cell 1, b0.cell 2, b0.cell 3⟩
  clear b0 q0
  go_enter Try.func6, Try.ntmps6
  go_upto_region 1 with fail
  rw [← hW0]
  clear hW0
  go_cut [3, 4, 5] from 15 to 20 (fun V3 V4 V5 wx => V3 = .int .u8 (c : Nat) ∧ V4 = .int .u8 (keep : Nat) ∧ V5 = .int .i64 cut ∧ wx = W0.drew)
  case first =>
    go_region
    all_goals (go_wp2_with fail)
    all_goals go_meet
    all_goals exact ⟨rfl, rfl, rfl, rfl⟩
  case rest =>
  obtain ⟨rfl, rfl, rfl, rfl⟩ := hcut
  go_wp2_with fail
  refine (CN.out _).mono ?_
  rintro e w1 ⟨A0, c0, rfl, hz1, d1⟩
  have bn := Bx.new w1 24 #[.slice A0 2 c0, .int .i64 9, .int .i64 1, .int .i64 (-1), .bool false, .int .i64 0]
  have qn := (Q.refl w1).alloc (.cells #[.slice A0 2 c0, .int .i64 9, .int .i64 1, .int .i64 (-1), .bool false, .int .i64 0] 24)
  have hzn := hz1.on qn
  have hqn := (Q0.out.drew.trans d1).trans qn
  obtain ⟨p0, hp0⟩ : ∃ p, p = w1.heap.size := ⟨_, rfl⟩
  obtain ⟨W2, hW2⟩ : ∃ z, z = w1.alloc (.cells #[.slice A0 2 c0, .int .i64 9, .int .i64 1, .int .i64 (-1), .bool false, .int .i64 0] 24) := ⟨_, rfl⟩
  rw [← hp0, ← hW2] at bn
  rw [← hW2] at hzn hqn
  go_upto_region 4 with fail
  rw [← hp0, ← hW2]
  clear hp0 hW2 hz1 d1 t0 t1 t2 t3 qn
  have BN := Lib.hid bn
  have QN := Lib.hid hqn
  have ZN := Lib.hid hzn
  clear bn hqn hzn
  have CP := Lib.hid (fun (y : World) (q : Q W2 y) => CPA.out y _ (ZN.out.on q))
  clear CPA
  go_cut [9, 10] from 31 to 37 (fun VP VE wx => ∃ p A9 c9, VP = .pointer (some ⟨p, 0, none⟩) ∧ VE = .int .i64 0 ∧ Hid (W2.heap.size ≤ p) ∧ Hid (Bx wx p 24 #[.slice A9 2 c9, .int .i64 9, .int .i64 1, .int .i64 (-1), .bool false, .int .i64 0]) ∧ Hid (Zns wx wx.heap.size (.slice A9 2 c9) XZ) ∧ Hid (Q W2 wx))
  case first =>
    have KS : Hid (∀ y, Q W2 y → (fun (W : World) => W.cell? ⟨p0, 0, none⟩ = some (.slice A0 2 c0) ∧ W.cell? ⟨p0, 1, none⟩ = some (.int .i64 9) ∧ W.cell? ⟨p0, 2, none⟩ = some (.int .i64 1) ∧ W.cell? ⟨p0, 3, none⟩ = some (.int .i64 (-1)) ∧ W.cell? ⟨p0, 4, none⟩ = some (.bool false) ∧ W.cell? ⟨p0, 5, none⟩ = some (.int .i64 0)) y) := Lib.hid (fun y q => ⟨(BN.out.on q).cell 0, (BN.out.on q).cell 1, (BN.out.on q).cell 2, (BN.out.on q).cell 3, (BN.out.on q).cell 4, (BN.out.on q).cell 5⟩)
    have q1 := (Q.refl W2).drew
    obtain ⟨wd, hwd⟩ : ∃ z, z = W2.drew := ⟨_, rfl⟩
    refine wp_region_held_drew (S := (fun (W : World) => W.cell? ⟨p0, 0, none⟩ = some (.slice A0 2 c0) ∧ W.cell? ⟨p0, 1, none⟩ = some (.int .i64 9) ∧ W.cell? ⟨p0, 2, none⟩ = some (.int .i64 1) ∧ W.cell? ⟨p0, 3, none⟩ = some (.int .i64 (-1)) ∧ W.cell? ⟨p0, 4, none⟩ = some (.bool false) ∧ W.cell? ⟨p0, 5, none⟩ = some (.int .i64 0))) (by kernel_rfl) (KS.out _ q1) (fun hHeld => ?_)
    rw [← hwd] at q1 hHeld ⊢
    clear hwd
    have Rd := Lib.hid q1
    clear q1
    refine tkV 0 ?_
    refine tkV 1 ?_
    refine tkV 2 ?_
    refine aR [3, 8] ?_
    refine AllReadyH.cons (o := _) rfl (fun K_ hK => ?_) (AllReadyH.cons (o := _) rfl (fun K_ hK => ?_) AllReadyH.nil)
    · skip
      go_simp
      go_at_call 24
      refine (CA.out _).mono ?_
      rintro e wx0 ⟨rfl, q⟩
      have Rx0 := Lib.hid (Rd.out.trans q)
      clear q
      clear hHeld
      refine hK.out _ _ (KS.out _ Rx0.out) (fun hHeld => ?_)
      clear hK K_
      refine pg ?_
      refine aR [4, 8] ?_
      refine AllReadyH.cons (o := _) rfl (fun K_ hK => ?_) (AllReadyH.cons (o := _) rfl (fun K_ hK => ?_) AllReadyH.nil)
      · skip
        go_simp
        go_at_call 23
        refine (CP.out _ Rx0.out).mono ?_
        rintro e wx1 ⟨A9, c9, rfl, hz9, q⟩
        have Rx1 := Lib.hid (Rx0.out.trans q)
        clear q
        have Z9 := Lib.hid hz9
        clear hz9
        clear hHeld
        refine hK.out _ _ (KS.out _ Rx1.out) (fun hHeld => ?_)
        clear hK K_
        refine pg ?_
        refine tkV 5 ?_
        refine tkV 6 ?_
        refine tkV 7 ?_
        refine aR [8] ?_
        refine AllReadyH.cons (o := _) rfl (fun K_ hK => ?_) AllReadyH.nil
        · skip
          go_simp
          have q := (Q.refl wx1).alloc (.cells #[.slice none 0 0, .int .i64 0, .int .i64 0, .int .i64 0, .bool false, .int .i64 0] 24)
          have b := Bx.new wx1 24 #[.slice none 0 0, .int .i64 0, .int .i64 0, .int .i64 0, .bool false, .int .i64 0]
          have hp9 := Rx1.out.size
          obtain ⟨wx2, hw⟩ : ∃ z, z = wx1.alloc (.cells #[.slice none 0 0, .int .i64 0, .int .i64 0, .int .i64 0, .bool false, .int .i64 0] 24) := ⟨_, rfl⟩
          rw [← hw] at q b
          rw [← hw]
          clear hw
          obtain ⟨p9, hp⟩ : ∃ z, z = wx1.heap.size := ⟨_, rfl⟩
          rw [← hp] at b hp9 ⊢
          clear hp
          have b7 := Lib.hid b
          have hp9 := Lib.hid hp9
          have Rx2 := Lib.hid (Rx1.out.trans q)
          have Z9 := Lib.hid (Z9.out.on q)
          clear q b
          clear hHeld
          refine hK.out _ _ (KS.out _ Rx2.out) (fun hHeld => ?_)
          clear hK K_
          refine pg ?_
          have hb9 := b7.out
          obtain ⟨f0, f1, f2, f3, f4, f5⟩ : wx2.cell? ⟨p9, 0, none⟩ = some (.slice none 0 0) ∧ wx2.cell? ⟨p9, 1, none⟩ = some (.int .i64 0) ∧ wx2.cell? ⟨p9, 2, none⟩ = some (.int .i64 0) ∧ wx2.cell? ⟨p9, 3, none⟩ = some (.int .i64 0) ∧ wx2.cell? ⟨p9, 4, none⟩ = some (.bool false) ∧ wx2.cell? ⟨p9, 5, none⟩ = some (.int .i64 0) := ⟨hb9.cell 0, hb9.cell 1, hb9.cell 2, hb9.cell 3, hb9.cell 4, hb9.cell 5⟩
          have g0 := hb9.frozen 0
          have g1 := hb9.frozen 1
          have g2 := hb9.frozen 2
          have g3 := hb9.frozen 3
          have g4 := hb9.frozen 4
          have g5 := hb9.frozen 5
          have b9c := ((((((hb9.set 0 (.slice A9 2 c9)).set 1 (.int .i64 9)).set 2 (.int .i64 1)).set 3 (.int .i64 (-1))).set 4 (.bool false)).set 5 (.int .i64 0))
          have q9 : Q W2 ((((((wx2.setCell ⟨p9, 0, none⟩ (.slice A9 2 c9)).setCell ⟨p9, 1, none⟩ (.int .i64 9)).setCell ⟨p9, 2, none⟩ (.int .i64 1)).setCell ⟨p9, 3, none⟩ (.int .i64 (-1))).setCell ⟨p9, 4, none⟩ (.bool false)).setCell ⟨p9, 5, none⟩ (.int .i64 0)) := (Q.set (Q.set (Q.set (Q.set (Q.set (Q.set Rx2.out hp9.out _) hp9.out _) hp9.out _) hp9.out _) hp9.out _) hp9.out _)
          have k9 : ∀ j, j ≠ p9 → ((((((wx2.setCell ⟨p9, 0, none⟩ (.slice A9 2 c9)).setCell ⟨p9, 1, none⟩ (.int .i64 9)).setCell ⟨p9, 2, none⟩ (.int .i64 1)).setCell ⟨p9, 3, none⟩ (.int .i64 (-1))).setCell ⟨p9, 4, none⟩ (.bool false)).setCell ⟨p9, 5, none⟩ (.int .i64 0)).heap[j]? = wx2.heap[j]? := fun j hne => (heap_set _ _ _ _ hne).trans ( (heap_set _ _ _ _ hne).trans ( (heap_set _ _ _ _ hne).trans ( (heap_set _ _ _ _ hne).trans ( (heap_set _ _ _ _ hne).trans ( heap_set _ _ _ _ hne)))))
          have s9 : wx2.heap.size ≤ ((((((wx2.setCell ⟨p9, 0, none⟩ (.slice A9 2 c9)).setCell ⟨p9, 1, none⟩ (.int .i64 9)).setCell ⟨p9, 2, none⟩ (.int .i64 1)).setCell ⟨p9, 3, none⟩ (.int .i64 (-1))).setCell ⟨p9, 4, none⟩ (.bool false)).setCell ⟨p9, 5, none⟩ (.int .i64 0)).heap.size := by simp
          obtain ⟨we, hwe⟩ : ∃ z, z = ((((((wx2.setCell ⟨p9, 0, none⟩ (.slice A9 2 c9)).setCell ⟨p9, 1, none⟩ (.int .i64 9)).setCell ⟨p9, 2, none⟩ (.int .i64 1)).setCell ⟨p9, 3, none⟩ (.int .i64 (-1))).setCell ⟨p9, 4, none⟩ (.bool false)).setCell ⟨p9, 5, none⟩ (.int .i64 0)) := ⟨_, rfl⟩
          rw [← hwe] at q9 b9c k9 s9
          simp only [List.setIfInBounds_toArray, List.set_cons_zero, List.set_cons_succ] at b9c
          have Q9 := Lib.hid q9
          have B9 := Lib.hid b9c
          have K9 := Lib.hid k9
          have S9 := Lib.hid s9
          clear q9 b9c k9 s9
          refine aR [9] ?_
          refine AllReadyH.cons (o := _) rfl (fun K_ hK => ?_) AllReadyH.nil
          go_simp
          rw [← hwe]
          clear hwe f0 f1 f2 f3 f4 f5 g0 g1 g2 g3 g4 g5 hb9
          clear hHeld
          refine hK.out _ _ (KS.out _ Q9.out) (fun hHeld => ?_)
          clear hK K_
          refine pg ?_
          refine tkV 10 ?_
          refine wpAnyH_done (by kernel_rfl) ?_ _
          go_wp2_with fail
          go_meet
          exact ⟨p9, A9, c9, rfl, rfl, hp9, B9, Lib.hid (Zns.off Z9.out b7.out K9.out S9.out), Q9⟩
      · skip
        go_simp
        have q := (Q.refl wx0).alloc (.cells #[.slice none 0 0, .int .i64 0, .int .i64 0, .int .i64 0, .bool false, .int .i64 0] 24)
        have b := Bx.new wx0 24 #[.slice none 0 0, .int .i64 0, .int .i64 0, .int .i64 0, .bool false, .int .i64 0]
        have hp9 := Rx0.out.size
        obtain ⟨wx1, hw⟩ : ∃ z, z = wx0.alloc (.cells #[.slice none 0 0, .int .i64 0, .int .i64 0, .int .i64 0, .bool false, .int .i64 0] 24) := ⟨_, rfl⟩
        rw [← hw] at q b
        rw [← hw]
        clear hw
        obtain ⟨p9, hp⟩ : ∃ z, z = wx0.heap.size := ⟨_, rfl⟩
        rw [← hp] at b hp9 ⊢
        clear hp
        have b7 := Lib.hid b
        have hp9 := Lib.hid hp9
        have Rx1 := Lib.hid (Rx0.out.trans q)
        clear q b
        clear hHeld
        refine hK.out _ _ (KS.out _ Rx1.out) (fun hHeld => ?_)
        clear hK K_
        refine pg ?_
        refine aR [4] ?_
        refine AllReadyH.cons (o := _) rfl (fun K_ hK => ?_) AllReadyH.nil
        · skip
          go_simp
          go_at_call 23
          refine (CP.out _ Rx1.out).mono ?_
          rintro e wx2 ⟨A9, c9, rfl, hz9, q⟩
          have Rx2 := Lib.hid (Rx1.out.trans q)
          have b7 := Lib.hid (b7.out.on q)
          clear q
          have Z9 := Lib.hid hz9
          clear hz9
          clear hHeld
          refine hK.out _ _ (KS.out _ Rx2.out) (fun hHeld => ?_)
          clear hK K_
          refine pg ?_
          refine tkV 5 ?_
          refine tkV 6 ?_
          refine tkV 7 ?_
          have hb9 := b7.out
          obtain ⟨f0, f1, f2, f3, f4, f5⟩ : wx2.cell? ⟨p9, 0, none⟩ = some (.slice none 0 0) ∧ wx2.cell? ⟨p9, 1, none⟩ = some (.int .i64 0) ∧ wx2.cell? ⟨p9, 2, none⟩ = some (.int .i64 0) ∧ wx2.cell? ⟨p9, 3, none⟩ = some (.int .i64 0) ∧ wx2.cell? ⟨p9, 4, none⟩ = some (.bool false) ∧ wx2.cell? ⟨p9, 5, none⟩ = some (.int .i64 0) := ⟨hb9.cell 0, hb9.cell 1, hb9.cell 2, hb9.cell 3, hb9.cell 4, hb9.cell 5⟩
          have g0 := hb9.frozen 0
          have g1 := hb9.frozen 1
          have g2 := hb9.frozen 2
          have g3 := hb9.frozen 3
          have g4 := hb9.frozen 4
          have g5 := hb9.frozen 5
          have b9c := ((((((hb9.set 0 (.slice A9 2 c9)).set 1 (.int .i64 9)).set 2 (.int .i64 1)).set 3 (.int .i64 (-1))).set 4 (.bool false)).set 5 (.int .i64 0))
          have q9 : Q W2 ((((((wx2.setCell ⟨p9, 0, none⟩ (.slice A9 2 c9)).setCell ⟨p9, 1, none⟩ (.int .i64 9)).setCell ⟨p9, 2, none⟩ (.int .i64 1)).setCell ⟨p9, 3, none⟩ (.int .i64 (-1))).setCell ⟨p9, 4, none⟩ (.bool false)).setCell ⟨p9, 5, none⟩ (.int .i64 0)) := (Q.set (Q.set (Q.set (Q.set (Q.set (Q.set Rx2.out hp9.out _) hp9.out _) hp9.out _) hp9.out _) hp9.out _) hp9.out _)
          have k9 : ∀ j, j ≠ p9 → ((((((wx2.setCell ⟨p9, 0, none⟩ (.slice A9 2 c9)).setCell ⟨p9, 1, none⟩ (.int .i64 9)).setCell ⟨p9, 2, none⟩ (.int .i64 1)).setCell ⟨p9, 3, none⟩ (.int .i64 (-1))).setCell ⟨p9, 4, none⟩ (.bool false)).setCell ⟨p9, 5, none⟩ (.int .i64 0)).heap[j]? = wx2.heap[j]? := fun j hne => (heap_set _ _ _ _ hne).trans ( (heap_set _ _ _ _ hne).trans ( (heap_set _ _ _ _ hne).trans ( (heap_set _ _ _ _ hne).trans ( (heap_set _ _ _ _ hne).trans ( heap_set _ _ _ _ hne)))))
          have s9 : wx2.heap.size ≤ ((((((wx2.setCell ⟨p9, 0, none⟩ (.slice A9 2 c9)).setCell ⟨p9, 1, none⟩ (.int .i64 9)).setCell ⟨p9, 2, none⟩ (.int .i64 1)).setCell ⟨p9, 3, none⟩ (.int .i64 (-1))).setCell ⟨p9, 4, none⟩ (.bool false)).setCell ⟨p9, 5, none⟩ (.int .i64 0)).heap.size := by simp
          obtain ⟨we, hwe⟩ : ∃ z, z = ((((((wx2.setCell ⟨p9, 0, none⟩ (.slice A9 2 c9)).setCell ⟨p9, 1, none⟩ (.int .i64 9)).setCell ⟨p9, 2, none⟩ (.int .i64 1)).setCell ⟨p9, 3, none⟩ (.int .i64 (-1))).setCell ⟨p9, 4, none⟩ (.bool false)).setCell ⟨p9, 5, none⟩ (.int .i64 0)) := ⟨_, rfl⟩
          rw [← hwe] at q9 b9c k9 s9
          simp only [List.setIfInBounds_toArray, List.set_cons_zero, List.set_cons_succ] at b9c
          have Q9 := Lib.hid q9
          have B9 := Lib.hid b9c
          have K9 := Lib.hid k9
          have S9 := Lib.hid s9
          clear q9 b9c k9 s9
          refine aR [9] ?_
          refine AllReadyH.cons (o := _) rfl (fun K_ hK => ?_) AllReadyH.nil
          go_simp
          rw [← hwe]
          clear hwe f0 f1 f2 f3 f4 f5 g0 g1 g2 g3 g4 g5 hb9
          clear hHeld
          refine hK.out _ _ (KS.out _ Q9.out) (fun hHeld => ?_)
          clear hK K_
          refine pg ?_
          refine tkV 10 ?_
          refine wpAnyH_done (by kernel_rfl) ?_ _
          go_wp2_with fail
          go_meet
          exact ⟨p9, A9, c9, rfl, rfl, hp9, B9, Lib.hid (Zns.off Z9.out b7.out K9.out S9.out), Q9⟩
    · skip
      go_simp
      have q := (Q.refl wd).alloc (.cells #[.slice none 0 0, .int .i64 0, .int .i64 0, .int .i64 0, .bool false, .int .i64 0] 24)
      have b := Bx.new wd 24 #[.slice none 0 0, .int .i64 0, .int .i64 0, .int .i64 0, .bool false, .int .i64 0]
      have hp9 := Rd.out.size
      obtain ⟨wx0, hw⟩ : ∃ z, z = wd.alloc (.cells #[.slice none 0 0, .int .i64 0, .int .i64 0, .int .i64 0, .bool false, .int .i64 0] 24) := ⟨_, rfl⟩
      rw [← hw] at q b
      rw [← hw]
      clear hw
      obtain ⟨p9, hp⟩ : ∃ z, z = wd.heap.size := ⟨_, rfl⟩
      rw [← hp] at b hp9 ⊢
      clear hp
      have b7 := Lib.hid b
      have hp9 := Lib.hid hp9
      have Rx0 := Lib.hid (Rd.out.trans q)
      clear q b
      clear hHeld
      refine hK.out _ _ (KS.out _ Rx0.out) (fun hHeld => ?_)
      clear hK K_
      refine pg ?_
      refine aR [3] ?_
      refine AllReadyH.cons (o := _) rfl (fun K_ hK => ?_) AllReadyH.nil
      · skip
        go_simp
        go_at_call 24
        refine (CA.out _).mono ?_
        rintro e wx1 ⟨rfl, q⟩
        have Rx1 := Lib.hid (Rx0.out.trans q)
        have b7 := Lib.hid (b7.out.on q)
        clear q
        clear hHeld
        refine hK.out _ _ (KS.out _ Rx1.out) (fun hHeld => ?_)
        clear hK K_
        refine pg ?_
        refine aR [4] ?_
        refine AllReadyH.cons (o := _) rfl (fun K_ hK => ?_) AllReadyH.nil
        · skip
          go_simp
          go_at_call 23
          refine (CP.out _ Rx1.out).mono ?_
          rintro e wx2 ⟨A9, c9, rfl, hz9, q⟩
          have Rx2 := Lib.hid (Rx1.out.trans q)
          have b7 := Lib.hid (b7.out.on q)
          clear q
          have Z9 := Lib.hid hz9
          clear hz9
          clear hHeld
          refine hK.out _ _ (KS.out _ Rx2.out) (fun hHeld => ?_)
          clear hK K_
          refine pg ?_
          refine tkV 5 ?_
          refine tkV 6 ?_
          refine tkV 7 ?_
          have hb9 := b7.out
          obtain ⟨f0, f1, f2, f3, f4, f5⟩ : wx2.cell? ⟨p9, 0, none⟩ = some (.slice none 0 0) ∧ wx2.cell? ⟨p9, 1, none⟩ = some (.int .i64 0) ∧ wx2.cell? ⟨p9, 2, none⟩ = some (.int .i64 0) ∧ wx2.cell? ⟨p9, 3, none⟩ = some (.int .i64 0) ∧ wx2.cell? ⟨p9, 4, none⟩ = some (.bool false) ∧ wx2.cell? ⟨p9, 5, none⟩ = some (.int .i64 0) := ⟨hb9.cell 0, hb9.cell 1, hb9.cell 2, hb9.cell 3, hb9.cell 4, hb9.cell 5⟩
          have g0 := hb9.frozen 0
          have g1 := hb9.frozen 1
          have g2 := hb9.frozen 2
          have g3 := hb9.frozen 3
          have g4 := hb9.frozen 4
          have g5 := hb9.frozen 5
          have b9c := ((((((hb9.set 0 (.slice A9 2 c9)).set 1 (.int .i64 9)).set 2 (.int .i64 1)).set 3 (.int .i64 (-1))).set 4 (.bool false)).set 5 (.int .i64 0))
          have q9 : Q W2 ((((((wx2.setCell ⟨p9, 0, none⟩ (.slice A9 2 c9)).setCell ⟨p9, 1, none⟩ (.int .i64 9)).setCell ⟨p9, 2, none⟩ (.int .i64 1)).setCell ⟨p9, 3, none⟩ (.int .i64 (-1))).setCell ⟨p9, 4, none⟩ (.bool false)).setCell ⟨p9, 5, none⟩ (.int .i64 0)) := (Q.set (Q.set (Q.set (Q.set (Q.set (Q.set Rx2.out hp9.out _) hp9.out _) hp9.out _) hp9.out _) hp9.out _) hp9.out _)
          have k9 : ∀ j, j ≠ p9 → ((((((wx2.setCell ⟨p9, 0, none⟩ (.slice A9 2 c9)).setCell ⟨p9, 1, none⟩ (.int .i64 9)).setCell ⟨p9, 2, none⟩ (.int .i64 1)).setCell ⟨p9, 3, none⟩ (.int .i64 (-1))).setCell ⟨p9, 4, none⟩ (.bool false)).setCell ⟨p9, 5, none⟩ (.int .i64 0)).heap[j]? = wx2.heap[j]? := fun j hne => (heap_set _ _ _ _ hne).trans ( (heap_set _ _ _ _ hne).trans ( (heap_set _ _ _ _ hne).trans ( (heap_set _ _ _ _ hne).trans ( (heap_set _ _ _ _ hne).trans ( heap_set _ _ _ _ hne)))))
          have s9 : wx2.heap.size ≤ ((((((wx2.setCell ⟨p9, 0, none⟩ (.slice A9 2 c9)).setCell ⟨p9, 1, none⟩ (.int .i64 9)).setCell ⟨p9, 2, none⟩ (.int .i64 1)).setCell ⟨p9, 3, none⟩ (.int .i64 (-1))).setCell ⟨p9, 4, none⟩ (.bool false)).setCell ⟨p9, 5, none⟩ (.int .i64 0)).heap.size := by simp
          obtain ⟨we, hwe⟩ : ∃ z, z = ((((((wx2.setCell ⟨p9, 0, none⟩ (.slice A9 2 c9)).setCell ⟨p9, 1, none⟩ (.int .i64 9)).setCell ⟨p9, 2, none⟩ (.int .i64 1)).setCell ⟨p9, 3, none⟩ (.int .i64 (-1))).setCell ⟨p9, 4, none⟩ (.bool false)).setCell ⟨p9, 5, none⟩ (.int .i64 0)) := ⟨_, rfl⟩
          rw [← hwe] at q9 b9c k9 s9
          simp only [List.setIfInBounds_toArray, List.set_cons_zero, List.set_cons_succ] at b9c
          have Q9 := Lib.hid q9
          have B9 := Lib.hid b9c
          have K9 := Lib.hid k9
          have S9 := Lib.hid s9
          clear q9 b9c k9 s9
          refine aR [9] ?_
          refine AllReadyH.cons (o := _) rfl (fun K_ hK => ?_) AllReadyH.nil
          go_simp
          rw [← hwe]
          clear hwe f0 f1 f2 f3 f4 f5 g0 g1 g2 g3 g4 g5 hb9
          clear hHeld
          refine hK.out _ _ (KS.out _ Q9.out) (fun hHeld => ?_)
          clear hK K_
          refine pg ?_
          refine tkV 10 ?_
          refine wpAnyH_done (by kernel_rfl) ?_ _
          go_wp2_with fail
          go_meet
          exact ⟨p9, A9, c9, rfl, rfl, hp9, B9, Lib.hid (Zns.off Z9.out b7.out K9.out S9.out), Q9⟩
  case rest =>
  obtain ⟨p1, A1, c1, rfl, rfl, hp1, B1, Z1, Q1⟩ := hcut
  have Q3 := Lib.hid (QN.out.trans Q1.out)
  obtain ⟨x0, x1, x2, x3, x4, x5⟩ : wc.cell? ⟨p1, 0, none⟩ = some (.slice A1 2 c1) ∧ wc.cell? ⟨p1, 1, none⟩ = some (.int .i64 9) ∧ wc.cell? ⟨p1, 2, none⟩ = some (.int .i64 1) ∧ wc.cell? ⟨p1, 3, none⟩ = some (.int .i64 (-1)) ∧ wc.cell? ⟨p1, 4, none⟩ = some (.bool false) ∧ wc.cell? ⟨p1, 5, none⟩ = some (.int .i64 0) := ⟨B1.out.cell 0, B1.out.cell 1, B1.out.cell 2, B1.out.cell 3, B1.out.cell 4, B1.out.cell 5⟩
  go_upto_region 8 with fail
  have bi := Bx.new wc 3 #[.int .i64 0, .int .i64 k]
  have qi := (Q.refl wc).alloc (.cells #[.int .i64 0, .int .i64 k] 3)
  have C1 := Lib.hid (CC.out (wc.alloc (.cells #[.int .i64 0, .int .i64 k] 3)) _ _ (Z1.out.on qi) (ints_lit bi (by omega)))
  have QI := Lib.hid qi
  clear bi qi CC
  go_wp2_with fail
  refine (C1.out).mono ?_
  rintro e w5 ⟨v5, rfl, hz5, d5⟩
  clear x0 x1 x2 x3 x4 x5
  rw [HY.out] at hz5
  obtain ⟨A5, c5, hv5⟩ := hz5.form
  simp only [List.length_cons, List.length_nil] at hv5
  subst hv5
  have hz6 := hz5.on ((Q.refl w5).alloc (.cells #[.slice A5 2 c5, .int .i64 Y.size, .int .i64 Y.mo, .int .i64 Y.fuel, .bool Y.off, .int .i64 Y.bad] 24))
  have b6 := Bx.new w5 24 #[.slice A5 2 c5, .int .i64 Y.size, .int .i64 Y.mo, .int .i64 Y.fuel, .bool Y.off, .int .i64 Y.bad]
  have q6 := Q3.out.trans ((QI.out.trans d5).trans ((Q.refl w5).alloc (.cells #[.slice A5 2 c5, .int .i64 Y.size, .int .i64 Y.mo, .int .i64 Y.fuel, .bool Y.off, .int .i64 Y.bad] 24)))
  obtain ⟨p2, hp2⟩ : ∃ p, p = w5.heap.size := ⟨_, rfl⟩
  obtain ⟨W6, hW6⟩ : ∃ z, z = w5.alloc (.cells #[.slice A5 2 c5, .int .i64 Y.size, .int .i64 Y.mo, .int .i64 Y.fuel, .bool Y.off, .int .i64 Y.bad] 24) := ⟨_, rfl⟩
  rw [← hp2, ← hW6] at b6
  rw [← hW6] at hz6 q6
  rw [dvV]
  go_upto_region 9 with fail
  rw [← hp2, ← hW6]
  clear hp2 hW6 hz5 d5
  obtain ⟨a, c6, A7, n7, e7, ha, -, hat0⟩ := hz6.pick 0 (by simp)
  obtain ⟨a2, c8, A8, n8, e8, -, -, hat1⟩ := hz6.pick 1 (by simp)
  simp only [Value.slice.injEq] at e7 e8
  obtain ⟨rfl, -, rfl⟩ := e7
  obtain ⟨e8, -, rfl⟩ := e8
  injection e8 with e8
  subst e8
  obtain ⟨y0, -, -, -⟩ := hat0 W6 (Q.refl _)
  obtain ⟨y1, -, -, yb⟩ := hat1 W6 (Q.refl _)
  simp only [List.getElem_cons_zero, List.getElem_cons_succ] at y0 y1 yb
  have YB := Lib.hid yb
  have Q6 := Lib.hid q6
  have HB6 := Lib.hid b6
  have x0 := b6.cell 0
  simp only [List.getElem?_toArray, List.getElem?_cons_zero] at x0
  have hz00 : z0.b.length = 0 := by rw [HZ0.out]; rfl
  rw [hz00] at y0
  have y0 : W6.cell? a = some (.slice A7 0 n7) := by simpa [Addr.add] using y0
  have y1 : W6.cell? ⟨a.block, a.off + 3, none⟩ = some (.slice A8 z1.b.length n8) := by rw [add_pos _ (by omega)] at y1; simpa using y1
  obtain ⟨m, hm1⟩ : ∃ m, m = z1.b.length := ⟨_, rfl⟩
  rw [← hm1] at y1 YB
  have HM1 := Lib.hid hm1
  clear hz00 hm1 hat0 hat1 yb q6 b6 hz6
  have AW := Lib.hid (fun y => awake13_any y)
  go_upto_region 12 with fail
  by_cases hA : cut ≤ 0 ∨ k = n
  · have hmk : m = k := by
      rw [HM1.out, HZ1.out, if_neg (by rintro ⟨h1, h2⟩; omega)]; simp
    clear HZ1 HM1
    subst hmk
    by_cases hc0 : cut ≤ 0
    · clear hA
      go_wp2_with fail
      refine (AW.out _).mono ?_
      rintro e w8 ⟨rfl, d8⟩
      go_wp2
      go_ret
      exact ⟨rfl, Q6.out.trans d8⟩
    · obtain rfl : m = n := by omega
      clear hA
      go_wp2_with fail
      refine (AW.out _).mono ?_
      rintro e w8 ⟨rfl, d8⟩
      go_wp2
      go_ret
      exact ⟨rfl, Q6.out.trans d8⟩
  · have hc0 : ¬ cut ≤ 0 := fun h => hA (.inl h)
    have hcp : 0 < cut := by omega
    have hkn2 : k < n := by omega
    have hkne : ((k : Int) == (n : Int)) = false := by rw [beq_eq_false_iff_ne]; omega
    obtain ⟨K1, hK1⟩ : ∃ j, j = k + 1 := ⟨_, rfl⟩
    have hmk : m = K1 := by
      rw [HM1.out, HZ1.out, if_pos ⟨hcp, hkn2⟩]; simp [hK1]
    have eK : (k : Int) + 1 = (K1 : Int) := by omega
    have hkK : (k : Int) < (K1 : Int) := by omega
    have hK6 : K1 ≤ 6 := by omega
    obtain ⟨T, hT⟩ : ∃ t, t = tearB (octsB c 1) cut := ⟨_, rfl⟩
    have hz1k : z1.b[k]? = some T := by
      rw [HZ1.out, if_pos ⟨hcp, hkn2⟩, List.getElem?_append_right (by simp)]; simp [hT]
    obtain ⟨hk1, hk2⟩ := List.getElem?_eq_some_iff.1 hz1k
    subst hmk
    obtain ⟨A9, c9, e9, -, -, f9⟩ := YB.out
    obtain ⟨a9, e10, -, cell9⟩ := f9 k hk1
    rw [hk2] at cell9
    injection e9 with e9 e11 e12
    have e13 : A8 = some a9 := e9.trans e10
    clear e9 e10 e11 e12 f9 hk1 hk2 hz1k YB A9 c9
    subst e13
    have hS64 : (octsB c 1).size = 64 := octsB_size c 1
    have hS64b : (octsB 0 1).size = 64 := octsB_size 0 1
    have hTT := tear_octs c hcp
    rw [← hT] at hTT
    have CS1 := Lib.hid (fun y => all_any c 1 y hc (by decide) (by decide))
    have CS2 := Lib.hid (fun y => all_any 0 1 y (by decide) (by decide) (by decide))
    obtain ⟨S1, hS1⟩ : ∃ s, s = octsB c 1 := ⟨_, rfl⟩
    obtain ⟨S2, hS2⟩ : ∃ s, s = octsB 0 1 := ⟨_, rfl⟩
    rw [← hS1] at CS1 hS64 hTT
    rw [← hS2] at CS2 hS64b hTT
    have hs1 : (S1.size : Int) = 64 := by omega
    have hs2 : (S2.size : Int) = 64 := by omega
    obtain ⟨mm, hmm⟩ : ∃ j, j = min cut.toNat 64 := ⟨_, rfl⟩
    rw [← hmm] at hTT
    have hm64 : (mm : Int) ≤ 64 := by omega
    have hm64b : mm ≤ 64 := by omega
    have HTE : (T.toList == (S1.extract 0 mm ++ S2.extract mm S2.size).toList) = true := by rw [hTT, hS64b]; simp
    have HTT := Lib.hid hTT
    have ewm : IntKind.i64.wrap (m : Int) = (m : Int) := by rw [IntKind.wrap_i64] <;> omega
    have hcat : ¬ (9223372036854775807 < min mm S1.size + (S2.size - mm)) := by omega
    have KS : Hid (∀ y, Q W6 y → (fun (W : World) => W.cell? (a9.add k) = some (.string T)) y) := Lib.hid (fun y q => (q.cell (by have := World.block_lt_of_cell? W6 _ cell9; exact this)).trans cell9)
    have HMM := Lib.hid hmm
    clear hA hT hTT hS1 hS2 hK1 HM1 HZ1 hmm y0 x0 cell9
    by_cases hle : cut ≤ 64
    · have hcm : cut = (mm : Int) := by have := HMM.out; omega
      subst hcm
      have h64 : ¬ (64 : Int) < (mm : Int) := by omega
      have e18 : T.toList = (S1.extract 0 mm ++ S2.extract mm 64).toList := by rw [← HTT.out]
      go_upto_region 17 with fail
      clear y1
      have q1 := (Q.refl W6).drew
      refine wp_region_held_drew (S := (fun (W : World) => W.cell? (a9.add k) = some (.string T))) (by kernel_rfl) (KS.out _ q1) (fun hHeld => ?_)
      refine tkV 0 ?_
      refine tkV 1 ?_
      refine tkV 2 ?_
      refine tkB 3 (.int .i64 (m : Nat)) ?_
      refine tkB 4 (.bool true) ?_
      refine tkV 5 ?_
      refine tkV 6 ?_
      refine tkV 7 ?_
      refine tkB 8 (.pointer (some (a9.add k))) ?_
      refine tkV 9 ?_
      refine tkV 10 ?_
      refine tkV 12 ?_
      refine tkV 15 ?_
      refine aR [11] ?_
      refine AllReadyH.cons (o := _) rfl (fun K_ hK => ?_) AllReadyH.nil
      go_simp
      go_at_call 24
      refine (CS1.out _).mono ?_
      rintro e v1 ⟨rfl, q⟩
      have q2 := q1.trans q
      clear hHeld q
      refine hK.out _ _ (KS.out _ q2) (fun hHeld => ?_)
      clear hK K_
      refine pg ?_
      refine tkB 13 (.string (S1.extract 0 mm)) ?_
      refine aR [14] ?_
      refine AllReadyH.cons (o := _) rfl (fun K_ hK => ?_) AllReadyH.nil
      go_simp
      go_at_call 24
      refine (CS2.out _).mono ?_
      rintro e v2 ⟨rfl, q⟩
      have q3 := q2.trans q
      clear hHeld q
      refine hK.out _ _ (KS.out _ q3) (fun hHeld => ?_)
      clear hK K_
      refine pg ?_
      refine tkB 16 (.string (S2.extract mm S2.size)) ?_
      refine tkB 17 (.string (S1.extract 0 mm ++ S2.extract mm S2.size)) ?_
      refine tkB 18 (.bool true) ?_
      refine tkV 19 ?_
      refine tkV 20 ?_
      refine aR [21] ?_
      refine AllReadyH.cons (o := _) rfl (fun K_ hK => ?_) AllReadyH.nil
      go_simp
      go_at_call 18
      refine (AW.out _).mono ?_
      rintro e v3 ⟨rfl, q⟩
      have q4 := q3.trans q
      clear hHeld q
      refine hK.out _ _ (KS.out _ q4) (fun hHeld => ?_)
      clear hK K_
      refine pg ?_
      refine tkV 22 ?_
      refine tkV 23 ?_
      refine wpAnyH_done (by kernel_rfl) ?_ _
      go_wp2
      go_ret
      exact ⟨rfl, Q6.out.trans q4⟩
    · have h64 : (64 : Int) < cut := by omega
      have hcm : mm = 64 := by have := HMM.out; omega
      subst hcm
      have e18 : T.toList = (S1.extract 0 64).toList := by rw [HTT.out]; simp
      go_upto_region 17 with fail
      clear y1
      have q1 := (Q.refl W6).drew
      refine wp_region_held_drew (S := (fun (W : World) => W.cell? (a9.add k) = some (.string T))) (by kernel_rfl) (KS.out _ q1) (fun hHeld => ?_)
      refine tkV 0 ?_
      refine tkV 1 ?_
      refine tkV 2 ?_
      refine tkB 3 (.int .i64 (m : Nat)) ?_
      refine tkB 4 (.bool true) ?_
      refine tkV 5 ?_
      refine tkV 6 ?_
      refine tkV 7 ?_
      refine tkB 8 (.pointer (some (a9.add k))) ?_
      refine tkV 9 ?_
      refine tkV 10 ?_
      refine tkV 12 ?_
      refine tkV 15 ?_
      refine aR [11] ?_
      refine AllReadyH.cons (o := _) rfl (fun K_ hK => ?_) AllReadyH.nil
      go_simp
      go_at_call 24
      refine (CS1.out _).mono ?_
      rintro e v1 ⟨rfl, q⟩
      have q2 := q1.trans q
      clear hHeld q
      refine hK.out _ _ (KS.out _ q2) (fun hHeld => ?_)
      clear hK K_
      refine pg ?_
      refine tkB 13 (.string (S1.extract 0 64)) ?_
      refine aR [14] ?_
      refine AllReadyH.cons (o := _) rfl (fun K_ hK => ?_) AllReadyH.nil
      go_simp
      go_at_call 24
      refine (CS2.out _).mono ?_
      rintro e v2 ⟨rfl, q⟩
      have q3 := q2.trans q
      clear hHeld q
      refine hK.out _ _ (KS.out _ q3) (fun hHeld => ?_)
      clear hK K_
      refine pg ?_
      refine tkB 16 (.string (S2.extract 64 S2.size)) ?_
      refine tkB 17 (.string (S1.extract 0 64 ++ S2.extract 64 S2.size)) ?_
      refine tkB 18 (.bool true) ?_
      refine tkV 19 ?_
      refine tkV 20 ?_
      refine aR [21] ?_
      refine AllReadyH.cons (o := _) rfl (fun K_ hK => ?_) AllReadyH.nil
      go_simp
      go_at_call 18
      refine (AW.out _).mono ?_
      rintro e v3 ⟨rfl, q⟩
      have q4 := q3.trans q
      clear hHeld q
      refine hK.out _ _ (KS.out _ q4) (fun hHeld => ?_)
      clear hK K_
      refine pg ?_
      refine tkV 22 ?_
      refine tkV 23 ?_
      refine wpAnyH_done (by kernel_rfl) ?_ _
      go_wp2
      go_ret
      exact ⟨rfl, Q6.out.trans q4⟩

set_option maxRecDepth 100000 in
theorem lifted (os : Os) (started : os.Started) (H : Type) (enc : TypeId × Value → H) :
    ReturnsInHanded {} Try.checked os 6 .any (Rows.zoneTornSpec.pre6 enc Try.prog Try.f6 Rows.zoneTornRow.domain false) (Rows.zoneTornSpec.post enc Try.prog Try.f6 false true false false) := by
  refine returnsInHanded_of_change (C := Try.checked) own started (by kernel_rfl) Try.func6
    (ChangeSpec.witness6 (enc := enc) (C := Try.checked) false ⟨#[], #[.agg #[.int .u8 0, .int .u8 0, .int .u8 0, .int .i64 0]], []⟩ 8 (by kernel_rfl) (by kernel_rfl) (by kernel_rfl) (by kernel_rfl)) ?_
  intro W base args ds gs before hval0 hW hcnd _
  have hval : ∀ (j : Nat) t v, Try.f6.params[j]? = some t → args[j]? = some v → Value.okWide Try.prog W .any base t v := hval0
  have hW' := hW
  obtain ⟨p, q, hA0, hV, rfl, hfz, hnd⟩ := hW
  have hA : DataW.TrodAll enc Try.prog W 0 (fun _ => true) true Try.f6.params.toList args.toList ds p := hA0
  rw [Try.params6] at hA hval
  obtain ⟨v0, vs0, d0, ds0, p0, q0, hargs, rfl, rfl, h0, r0⟩ := trodAll_cons hA
  obtain ⟨rfl, rfl, rfl⟩ := trodAll_nil r0
  obtain rfl : args = #[v0] := by cases args; simp_all
  obtain ⟨rfl, rfl⟩ := trodVars_none hV
  clear hA0 hval0
  simp only [List.append_nil] at hW'
  have hlt : ∀ x ∈ p0, x.block < W.heap.size := fun x hx => by simpa using hW'.lt x (by simpa using hx)
  obtain ⟨x0, rfl, y0⟩ := open_tr (hval 0 55 v0 rfl rfl) h0
  refine (walk x0 W y0).mono fun e W' ⟨he, bel⟩ => ?_
  subst he
  refine ⟨_, rfl, _, _, _, [], _, [], hW', trodAll_mk1 (shut_bool Try.underlying4 _), (trodAll_cons_mk (Below.trod laid (by kernel_rfl) (of_decide_eq_true (by kernel_rfl)) h0 bel (fun x hx => hlt x (by simp [hx]))) trodAll_mk0), rfl, Below.frame bel _, fun h => by cases h⟩

theorem over : Rows.zoneTornRow.holds Try.pinned (OpenSpec.ofChange Rows.zoneTornSpec) :=
  OpenClaim.holds_of_wide 6 Try.f6 rfl rfl rfl rfl rfl rfl rfl ⟨rfl, rfl, rfl, rfl, rfl⟩ rfl rfl rfl rfl rfl (by kernel_rfl) Try.func6 (by kernel_rfl)
    (of_decide_eq_true (by kernel_rfl)) (by unfold Func.isWrapper; first | (rw [if_pos (by decide +kernel)]; kernel_rfl) | (rw [if_neg (by decide +kernel)]; exact ⟨rfl, rfl⟩))
    (fun os started H enc _ => lifted os started H enc)

theorem proved : Rows.ZoneTornSaid := over
#print axioms proved
end Go.Proofs.Yteoondmakdghhaa.zoneTorn
