/-
  Proved: whatever acts and loss ZoneStays is called with, it returns true and leaves what it was given as it was. No condition.
-/
import Derived.Test.YteoondmakdghhaaNn
namespace Go.Proofs.Yteoondmakdghhaa.zoneStays
set_option maxRecDepth 100000
open Go.ChangeShapes Go.WideShapes Go.ChangeAt Go.RowKit
open Go.ChangeMaps (open_string shut_string)
set_option linter.unusedVariables false
set_option linter.unusedSimpArgs false

theorem st_new : newD 4 6 2 = (⟨[noZn, noZn, noZn, noZn], 6, 2, -1, false, 0⟩, 0) := rfl
theorem st_may : mayD ⟨[noZn, noZn, noZn, noZn], 6, 2, -1, false, 0⟩ = true := by decide
/-- What an act comes to, without a failure. -/
inductive StC (d : Dv) : Dv × Nat → Prop
  | no (e : Nat) (h : e = 12 ∨ e = 8) (x : Dv) (hx : x = refD d) : StC d (x, e)
  | yes (x : Dv) (may : mayD x = true) (hf : x.fuel = -1) (ho : x.off = false) (hm : x.mo = d.mo) (hb : x.bad = d.bad) : StC d (x, 0)
theorem st_c {d : Dv} (hf : d.fuel = -1) (ho : d.off = false) (hm : mayD d = true) (a : Ac) : StC d (actD d a) := by
  have h1 := act_free hf ho hm a
  have h2 := act_c hm a
  generalize actD d a = r at h1 h2 ⊢
  cases h2 with
  | no e h => exact .no e h _ rfl
  | yes x e h may len mo sz bad =>
    simp only at h1
    rcases h with rfl | rfl
    · exact .yes x may h1.2.1 h1.2.2 mo bad
    · exact absurd rfl h1.1
set_option maxHeartbeats 16000000 in
set_option maxRecDepth 100000 in
theorem walk (l : List Ac) (v : Value) (o : Ls) (KV : Value) (w : World) (ht : Acs w w.heap.size v l) (hl : l.length ≤ maxLen) (hk : Ints w w.heap.size KV o.keep) (ho : okL o) : Calls Try.prog 4 #[v, lsV o KV] w fun e w' => e = .returned (.bool true) ∧ Q w w' := by
  have ht2 := ht
  obtain ⟨AL, cL, rfl, -⟩ := ht2
  have HT : Hid (∀ i (hi : i < l.length), ∃ (a : Addr) (c : Nat), Value.slice AL l.length cL = .slice (some a) l.length c ∧ okA l[i] ∧ ∀ d, Q w d → d.cell? (a.add (i * 4)) = some (.int .u8 (l[i].kind : Nat)) ∧ d.cell? ⟨(a.add (i * 4)).block, (a.add (i * 4)).off + 1, none⟩ = some (.int .u8 (l[i].zone : Nat)) ∧ d.cell? ⟨(a.add (i * 4)).block, (a.add (i * 4)).off + 2, none⟩ = some (.int .u8 (l[i].many : Nat)) ∧ d.cell? ⟨(a.add (i * 4)).block, (a.add (i * 4)).off + 3, none⟩ = some (.int .u8 (l[i].c : Nat))) := Lib.hid (fun i hi => ht.pick i hi)
  have CN := Lib.hid (fun y => dev_c (d := ⟨[noZn, noZn, noZn, noZn], 6, 2, -1, false, 0⟩) (k := 0) (ki := 0) (n := 4) (newZ_any 4 6 2 y) st_new rfl rfl)
  simp only [dvV] at CN
  obtain ⟨d0, hd0⟩ : ∃ d : Dv, d = ⟨[noZn, noZn, noZn, noZn], 6, 2, -1, false, 0⟩ := ⟨_, rfl⟩
  have HD0 : Hid (mayD d0 = true ∧ d0.fuel = -1 ∧ d0.off = false ∧ d0.bad = 0 ∧ d0.zs = [noZn, noZn, noZn, noZn] ∧ d0.size = 6 ∧ d0.mo = 2) := Lib.hid (by rw [hd0]; exact ⟨st_may, rfl, rfl, rfl, rfl, rfl, rfl⟩)
  obtain ⟨z4, hz4⟩ : ∃ z, z = [noZn, noZn, noZn, noZn] := ⟨_, rfl⟩
  rw [← hz4] at CN HD0
  have HZ4 : Hid (z4.length = 4) := Lib.hid (by rw [hz4]; rfl)
  have CC := Lib.hid (fun (d : Dv) (u : Value) (y : World) (hd : smD d) (h : Zns y y.heap.size u d.zs) (q : Q w y) => crashZ_any d u o KV y hd h (hk.on q))
  obtain ⟨AK, cK, rfl⟩ := hk.form
  obtain ⟨nk, hnk⟩ : ∃ n, n = o.keep.length := ⟨_, rfl⟩
  rw [← hnk] at CC ⊢
  obtain ⟨zo, hzo⟩ : ∃ z, z = o.zone := ⟨_, rfl⟩
  obtain ⟨cu, hcu⟩ : ∃ z, z = o.cut := ⟨_, rfl⟩
  rw [lsV, ← hzo, ← hcu]
  rw [← hzo, ← hcu] at CC
  clear hd0 hz4 ht hk ho hnk hzo hcu
  have bl := Bx.new w 27 #[.slice AK nk cK, .int .i64 zo, .int .i64 cu]
  have ql := (Q.refl w).alloc (.cells #[.slice AK nk cK, .int .i64 zo, .int .i64 cu] 27)
  obtain ⟨W0, hW0⟩ : ∃ z, z = w.alloc (.cells #[.slice AK nk cK, .int .i64 zo, .int .i64 cu] 27) := ⟨_, rfl⟩
  rw [← hW0] at bl ql
  have BL := Lib.hid bl
  have QL := Lib.hid ql
  clear bl ql
  go_enter Try.func4, Try.ntmps4
  go_upto_region 1 with fail
  rw [← hW0]
  clear hW0
  go_wp2_with fail
  refine (CN.out _).mono ?_
  rintro e w1 ⟨A0, c0, rfl, hz1, d1⟩
  have bn := Bx.new w1 24 #[.slice A0 4 c0, .int .i64 6, .int .i64 2, .int .i64 (-1), .bool false, .int .i64 0]
  have qn := (Q.refl w1).alloc (.cells #[.slice A0 4 c0, .int .i64 6, .int .i64 2, .int .i64 (-1), .bool false, .int .i64 0] 24)
  have hzn := hz1.on qn
  have hqn := d1.trans qn
  obtain ⟨p5, hp5⟩ : ∃ p, p = w1.heap.size := ⟨_, rfl⟩
  have hp5' : W0.heap.size ≤ p5 := by rw [hp5]; exact d1.size
  obtain ⟨W2, hW2⟩ : ∃ z, z = w1.alloc (.cells #[.slice A0 4 c0, .int .i64 6, .int .i64 2, .int .i64 (-1), .bool false, .int .i64 0] 24) := ⟨_, rfl⟩
  rw [← hp5, ← hW2] at bn
  rw [← hW2] at hzn hqn
  go_upto_region 2 with fail
  rw [← hp5, ← hW2]
  clear hp5 hW2 hz1 d1 qn
  have QN := Lib.hid (QL.out.trans hqn)
  have BL2 := Lib.hid (BL.out.on hqn)
  have BN := Lib.hid bn
  have HP5 : Hid (w.heap.size ≤ p5) := Lib.hid (Nat.le_trans QL.out.size hp5')
  have HPL : Hid (w.heap.size < p5) := Lib.hid (Nat.lt_of_lt_of_le BL.out.lt hp5')
  have HDB : Hid (∃ A c n, n = d0.zs.length ∧ Bx W2 p5 24 #[.slice A n c, .int .i64 d0.size, .int .i64 d0.mo, .int .i64 d0.fuel, .bool d0.off, .int .i64 d0.bad] ∧ Zns W2 W2.heap.size (.slice A n c) d0.zs) := Lib.hid (by
    obtain ⟨h1, h2, h3, h4, h5, h6, h7⟩ := HD0.out
    refine ⟨A0, c0, 4, by rw [h5, HZ4.out], ?_, by rw [h5]; exact hzn⟩
    rw [h2, h3, h4, h6, h7]
    exact BN.out)
  clear hzn hqn bn CN hp5'
  have AW := Lib.hid (fun y => awake13_any y)
  have hll : l.length ≤ maxLen := hl
  unfold maxLen at hl hll
  go_wp2_with fail
  go_loopw [7, 8] (fun M I wr => ∃ (i b : Nat) (d : Dv), i ≤ l.length ∧ i ≤ 60 ∧ I = .int .i64 i ∧ M = .int .i64 b ∧ b ≤ i ∧ Hid (mayD d = true ∧ d.fuel = -1 ∧ d.off = false ∧ d.bad = (b : Int) ∧ d.mo = 2) ∧ Hid (∃ A c n5, n5 = d.zs.length ∧ Bx wr p5 24 #[.slice A n5 c, .int .i64 d.size, .int .i64 d.mo, .int .i64 d.fuel, .bool d.off, .int .i64 d.bad] ∧ Zns wr wr.heap.size (.slice A n5 c) d.zs) ∧ Hid (Q w wr) ∧ Hid (Bx wr w.heap.size 27 #[.slice AK nk cK, .int .i64 zo, .int .i64 cu])) (fun _ I _ => l.length - (intOf I).toNat)
  case atStart => exact ⟨0, 0, d0, Nat.zero_le _, Nat.zero_le _, rfl, rfl, Nat.le_refl _, Lib.hid ⟨HD0.out.1, HD0.out.2.1, HD0.out.2.2.1, HD0.out.2.2.2.1, HD0.out.2.2.2.2.2.2⟩, HDB, QN, BL2⟩
  case round =>
    obtain ⟨i, b, d, hil, hi60, rfl, rfl, hbi, HM, HB, HQ, HLB⟩ := hrel
    obtain ⟨W3, hW3⟩ : ∃ z, z = wr := ⟨_, rfl⟩
    subst hW3
    by_cases hlt : i < l.length ∧ i < 60
    · obtain ⟨hlt1, hlt2⟩ := hlt
      have hil1 : (i : Int) < (l.length : Int) := by omega
      have hil2 : (i : Int) < 60 := by omega
      obtain ⟨a, cA, eA, hokA, hat⟩ := HT.out i hlt1
      injection eA with eA1 eA2 eA3
      subst eA1
      have HAT := Lib.hid hat
      have HFUQ := Lib.hid (st_c HM.out.2.1 HM.out.2.2.1 HM.out.1 l[i])
      have hdo := Lib.hid (fun (y : World) (u : Value) (h : Zns y y.heap.size u d.zs) => do_any d u l[i] y (may_sm HM.out.1) (by have h1 := HM.out; refine ⟨⟨?_, ?_⟩, ⟨?_, ?_⟩⟩ <;> omega) hokA h)
      obtain ⟨⟨kind, zone, many, c⟩, hy⟩ : ∃ y, y = l[i] := ⟨_, rfl⟩
      rw [← hy] at HAT HFUQ hdo
      clear hat hokA hy eA2 eA3
      obtain ⟨r, hr⟩ : ∃ r, r = actD d ⟨kind, zone, many, c⟩ := ⟨_, rfl⟩
      rw [← hr] at HFUQ hdo
      clear hr
      obtain ⟨A5, c5, n5, hn5, b5, z5⟩ := HB.out
      obtain ⟨⟨x, e9⟩, hxe⟩ : ∃ q : Dv × Nat, q = r := ⟨_, rfl⟩
      subst hxe
      obtain ⟨n9, hn9⟩ : ∃ n, n = x.zs.length := ⟨_, rfl⟩
      have HN9 := Lib.hid hn9
      have HN5 := Lib.hid hn5
      have CD := Lib.hid (fun (y : World) (q : Q W3 y) => dev_c (d := x) (k := e9) (ki := (e9 : Int)) (n := n9) (hdo.out y _ (z5.on q)) rfl rfl hn9)
      unfold dvV acV at CD
      simp only at CD
      have B5 := Lib.hid b5
      have Z5 := Lib.hid z5
      have QW3 := Lib.hid HQ.out
      have KS : Hid (∀ y, Q W3 y → (fun (W : World) => W.cell? ⟨p5, 0, none⟩ = some (.slice A5 n5 c5) ∧ W.cell? ⟨p5, 1, none⟩ = some (.int .i64 d.size) ∧ W.cell? ⟨p5, 2, none⟩ = some (.int .i64 d.mo) ∧ W.cell? ⟨p5, 3, none⟩ = some (.int .i64 d.fuel) ∧ W.cell? ⟨p5, 4, none⟩ = some (.bool d.off) ∧ W.cell? ⟨p5, 5, none⟩ = some (.int .i64 d.bad) ∧ W.cell? (a.add (i * 4)) = some (.int .u8 (kind : Nat)) ∧ W.cell? ⟨(a.add (i * 4)).block, (a.add (i * 4)).off + 1, none⟩ = some (.int .u8 (zone : Nat)) ∧ W.cell? ⟨(a.add (i * 4)).block, (a.add (i * 4)).off + 2, none⟩ = some (.int .u8 (many : Nat)) ∧ W.cell? ⟨(a.add (i * 4)).block, (a.add (i * 4)).off + 3, none⟩ = some (.int .u8 (c : Nat))) y) := Lib.hid (fun y q => ⟨(B5.out.on q).cell 0, (B5.out.on q).cell 1, (B5.out.on q).cell 2, (B5.out.on q).cell 3, (B5.out.on q).cell 4, (B5.out.on q).cell 5, (HAT.out y (HQ.out.trans q)).1, (HAT.out y (HQ.out.trans q)).2.1, (HAT.out y (HQ.out.trans q)).2.2.1, (HAT.out y (HQ.out.trans q)).2.2.2⟩)
      clear hn9 hn5 b5 z5 hdo
      go_upto_region 8 with fail
      go_cut [9, 10] from 30 to 37 (fun VP VE wx => ∃ p A9 c9, VP = .pointer (some ⟨p, 0, none⟩) ∧ VE = .int .i64 (e9 : Nat) ∧ Hid (W3.heap.size ≤ p) ∧ Hid (Bx wx p 24 #[.slice A9 n9 c9, .int .i64 x.size, .int .i64 x.mo, .int .i64 x.fuel, .bool x.off, .int .i64 x.bad]) ∧ Hid (Zns wx wx.heap.size (.slice A9 n9 c9) x.zs) ∧ Hid (Q W3 wx))
      case first =>
        have q1 := (Q.refl W3).drew
        obtain ⟨wd, hwd⟩ : ∃ z, z = W3.drew := ⟨_, rfl⟩
        refine wp_region_held_drew (S := (fun (W : World) => W.cell? ⟨p5, 0, none⟩ = some (.slice A5 n5 c5) ∧ W.cell? ⟨p5, 1, none⟩ = some (.int .i64 d.size) ∧ W.cell? ⟨p5, 2, none⟩ = some (.int .i64 d.mo) ∧ W.cell? ⟨p5, 3, none⟩ = some (.int .i64 d.fuel) ∧ W.cell? ⟨p5, 4, none⟩ = some (.bool d.off) ∧ W.cell? ⟨p5, 5, none⟩ = some (.int .i64 d.bad) ∧ W.cell? (a.add (i * 4)) = some (.int .u8 (kind : Nat)) ∧ W.cell? ⟨(a.add (i * 4)).block, (a.add (i * 4)).off + 1, none⟩ = some (.int .u8 (zone : Nat)) ∧ W.cell? ⟨(a.add (i * 4)).block, (a.add (i * 4)).off + 2, none⟩ = some (.int .u8 (many : Nat)) ∧ W.cell? ⟨(a.add (i * 4)).block, (a.add (i * 4)).off + 3, none⟩ = some (.int .u8 (c : Nat)))) (by kernel_rfl) (KS.out _ q1) (fun hHeld => ?_)
        rw [← hwd] at q1 hHeld ⊢
        clear hwd
        have Rd := Lib.hid q1
        clear q1
        refine tkV 0 ?_
        refine tkV 1 ?_
        refine tkV 2 ?_
        refine tkB 3 (.pointer (some (a.add (i * 4)))) ?_
        refine tkV 4 ?_
        refine aR [5, 9] ?_
        refine AllReadyH.cons (o := _) rfl (fun K_ hK => ?_) (AllReadyH.cons (o := _) rfl (fun K_ hK => ?_) AllReadyH.nil)
        · skip
          go_simp
          go_at_call 20
          refine (CD.out _ Rd.out).mono ?_
          rintro e wx0 ⟨A9, c9, rfl, hz9, q⟩
          have Rx0 := Lib.hid (Rd.out.trans q)
          clear q
          have Z9 := Lib.hid hz9
          clear hz9
          clear hHeld
          refine hK.out _ _ (KS.out _ Rx0.out) (fun hHeld => ?_)
          clear hK K_
          refine pg ?_
          refine tkV 6 ?_
          refine tkV 7 ?_
          refine tkV 8 ?_
          refine aR [9] ?_
          refine AllReadyH.cons (o := _) rfl (fun K_ hK => ?_) AllReadyH.nil
          · skip
            go_simp
            have q := (Q.refl wx0).alloc (.cells #[.slice none 0 0, .int .i64 0, .int .i64 0, .int .i64 0, .bool false, .int .i64 0] 24)
            have b := Bx.new wx0 24 #[.slice none 0 0, .int .i64 0, .int .i64 0, .int .i64 0, .bool false, .int .i64 0]
            have hp9 := Rx0.out.size
            obtain ⟨wx1, hw⟩ : ∃ z, z = wx0.alloc (.cells #[.slice none 0 0, .int .i64 0, .int .i64 0, .int .i64 0, .bool false, .int .i64 0] 24) := ⟨_, rfl⟩
            rw [← hw] at q b
            rw [← hw]
            clear hw
            obtain ⟨p9, hp⟩ : ∃ z, z = wx0.heap.size := ⟨_, rfl⟩
            rw [← hp] at b hp9 ⊢
            clear hp
            have b7 := Lib.hid b
            have hp9 := Lib.hid hp9
            have Rx1 := Lib.hid (Rx0.out.trans q)
            have Z9 := Lib.hid (Z9.out.on q)
            clear q b
            clear hHeld
            refine hK.out _ _ (KS.out _ Rx1.out) (fun hHeld => ?_)
            clear hK K_
            refine pg ?_
            have hb9 := b7.out
            obtain ⟨f0, f1, f2, f3, f4, f5⟩ : wx1.cell? ⟨p9, 0, none⟩ = some (.slice none 0 0) ∧ wx1.cell? ⟨p9, 1, none⟩ = some (.int .i64 0) ∧ wx1.cell? ⟨p9, 2, none⟩ = some (.int .i64 0) ∧ wx1.cell? ⟨p9, 3, none⟩ = some (.int .i64 0) ∧ wx1.cell? ⟨p9, 4, none⟩ = some (.bool false) ∧ wx1.cell? ⟨p9, 5, none⟩ = some (.int .i64 0) := ⟨hb9.cell 0, hb9.cell 1, hb9.cell 2, hb9.cell 3, hb9.cell 4, hb9.cell 5⟩
            have g0 := hb9.frozen 0
            have g1 := hb9.frozen 1
            have g2 := hb9.frozen 2
            have g3 := hb9.frozen 3
            have g4 := hb9.frozen 4
            have g5 := hb9.frozen 5
            have b9c := ((((((hb9.set 0 (.slice A9 n9 c9)).set 1 (.int .i64 x.size)).set 2 (.int .i64 x.mo)).set 3 (.int .i64 x.fuel)).set 4 (.bool x.off)).set 5 (.int .i64 x.bad))
            have q9 : Q W3 ((((((wx1.setCell ⟨p9, 0, none⟩ (.slice A9 n9 c9)).setCell ⟨p9, 1, none⟩ (.int .i64 x.size)).setCell ⟨p9, 2, none⟩ (.int .i64 x.mo)).setCell ⟨p9, 3, none⟩ (.int .i64 x.fuel)).setCell ⟨p9, 4, none⟩ (.bool x.off)).setCell ⟨p9, 5, none⟩ (.int .i64 x.bad)) := (Q.set (Q.set (Q.set (Q.set (Q.set (Q.set Rx1.out hp9.out _) hp9.out _) hp9.out _) hp9.out _) hp9.out _) hp9.out _)
            have k9 : ∀ j, j ≠ p9 → ((((((wx1.setCell ⟨p9, 0, none⟩ (.slice A9 n9 c9)).setCell ⟨p9, 1, none⟩ (.int .i64 x.size)).setCell ⟨p9, 2, none⟩ (.int .i64 x.mo)).setCell ⟨p9, 3, none⟩ (.int .i64 x.fuel)).setCell ⟨p9, 4, none⟩ (.bool x.off)).setCell ⟨p9, 5, none⟩ (.int .i64 x.bad)).heap[j]? = wx1.heap[j]? := fun j hne => (heap_set _ _ _ _ hne).trans ( (heap_set _ _ _ _ hne).trans ( (heap_set _ _ _ _ hne).trans ( (heap_set _ _ _ _ hne).trans ( (heap_set _ _ _ _ hne).trans ( heap_set _ _ _ _ hne)))))
            have s9 : wx1.heap.size ≤ ((((((wx1.setCell ⟨p9, 0, none⟩ (.slice A9 n9 c9)).setCell ⟨p9, 1, none⟩ (.int .i64 x.size)).setCell ⟨p9, 2, none⟩ (.int .i64 x.mo)).setCell ⟨p9, 3, none⟩ (.int .i64 x.fuel)).setCell ⟨p9, 4, none⟩ (.bool x.off)).setCell ⟨p9, 5, none⟩ (.int .i64 x.bad)).heap.size := by simp
            obtain ⟨we, hwe⟩ : ∃ z, z = ((((((wx1.setCell ⟨p9, 0, none⟩ (.slice A9 n9 c9)).setCell ⟨p9, 1, none⟩ (.int .i64 x.size)).setCell ⟨p9, 2, none⟩ (.int .i64 x.mo)).setCell ⟨p9, 3, none⟩ (.int .i64 x.fuel)).setCell ⟨p9, 4, none⟩ (.bool x.off)).setCell ⟨p9, 5, none⟩ (.int .i64 x.bad)) := ⟨_, rfl⟩
            rw [← hwe] at q9 b9c k9 s9
            simp only [List.setIfInBounds_toArray, List.set_cons_zero, List.set_cons_succ] at b9c
            have Q9 := Lib.hid q9
            have B9 := Lib.hid b9c
            have K9 := Lib.hid k9
            have S9 := Lib.hid s9
            clear q9 b9c k9 s9
            refine aR [10] ?_
            refine AllReadyH.cons (o := _) rfl (fun K_ hK => ?_) AllReadyH.nil
            go_simp
            rw [← hwe]
            clear hwe f0 f1 f2 f3 f4 f5 g0 g1 g2 g3 g4 g5 hb9
            clear hHeld
            refine hK.out _ _ (KS.out _ Q9.out) (fun hHeld => ?_)
            clear hK K_
            refine pg ?_
            refine tkV 11 ?_
            refine wpAnyH_done (by kernel_rfl) ?_ _
            go_wp2_with fail
            go_meet
            exact ⟨p9, A9, c9, rfl, rfl, hp9, B9, Lib.hid (Zns.off Z9.out b7.out K9.out S9.out), Q9⟩
        · skip
          go_simp
          have q := (Q.refl wd).alloc (.cells #[.slice none 0 0, .int .i64 0, .int .i64 0, .int .i64 0, .bool false, .int .i64 0] 24)
          have b := Bx.new wd 24 #[.slice none 0 0, .int .i64 0, .int .i64 0, .int .i64 0, .bool false, .int .i64 0]
          have hp9 := Rd.out.size
          obtain ⟨wx0, hw⟩ : ∃ z, z = wd.alloc (.cells #[.slice none 0 0, .int .i64 0, .int .i64 0, .int .i64 0, .bool false, .int .i64 0] 24) := ⟨_, rfl⟩
          rw [← hw] at q b
          rw [← hw]
          clear hw
          obtain ⟨p9, hp⟩ : ∃ z, z = wd.heap.size := ⟨_, rfl⟩
          rw [← hp] at b hp9 ⊢
          clear hp
          have b7 := Lib.hid b
          have hp9 := Lib.hid hp9
          have Rx0 := Lib.hid (Rd.out.trans q)
          clear q b
          clear hHeld
          refine hK.out _ _ (KS.out _ Rx0.out) (fun hHeld => ?_)
          clear hK K_
          refine pg ?_
          refine aR [5] ?_
          refine AllReadyH.cons (o := _) rfl (fun K_ hK => ?_) AllReadyH.nil
          · skip
            go_simp
            go_at_call 20
            refine (CD.out _ Rx0.out).mono ?_
            rintro e wx1 ⟨A9, c9, rfl, hz9, q⟩
            have Rx1 := Lib.hid (Rx0.out.trans q)
            have b7 := Lib.hid (b7.out.on q)
            clear q
            have Z9 := Lib.hid hz9
            clear hz9
            clear hHeld
            refine hK.out _ _ (KS.out _ Rx1.out) (fun hHeld => ?_)
            clear hK K_
            refine pg ?_
            refine tkV 6 ?_
            refine tkV 7 ?_
            refine tkV 8 ?_
            have hb9 := b7.out
            obtain ⟨f0, f1, f2, f3, f4, f5⟩ : wx1.cell? ⟨p9, 0, none⟩ = some (.slice none 0 0) ∧ wx1.cell? ⟨p9, 1, none⟩ = some (.int .i64 0) ∧ wx1.cell? ⟨p9, 2, none⟩ = some (.int .i64 0) ∧ wx1.cell? ⟨p9, 3, none⟩ = some (.int .i64 0) ∧ wx1.cell? ⟨p9, 4, none⟩ = some (.bool false) ∧ wx1.cell? ⟨p9, 5, none⟩ = some (.int .i64 0) := ⟨hb9.cell 0, hb9.cell 1, hb9.cell 2, hb9.cell 3, hb9.cell 4, hb9.cell 5⟩
            have g0 := hb9.frozen 0
            have g1 := hb9.frozen 1
            have g2 := hb9.frozen 2
            have g3 := hb9.frozen 3
            have g4 := hb9.frozen 4
            have g5 := hb9.frozen 5
            have b9c := ((((((hb9.set 0 (.slice A9 n9 c9)).set 1 (.int .i64 x.size)).set 2 (.int .i64 x.mo)).set 3 (.int .i64 x.fuel)).set 4 (.bool x.off)).set 5 (.int .i64 x.bad))
            have q9 : Q W3 ((((((wx1.setCell ⟨p9, 0, none⟩ (.slice A9 n9 c9)).setCell ⟨p9, 1, none⟩ (.int .i64 x.size)).setCell ⟨p9, 2, none⟩ (.int .i64 x.mo)).setCell ⟨p9, 3, none⟩ (.int .i64 x.fuel)).setCell ⟨p9, 4, none⟩ (.bool x.off)).setCell ⟨p9, 5, none⟩ (.int .i64 x.bad)) := (Q.set (Q.set (Q.set (Q.set (Q.set (Q.set Rx1.out hp9.out _) hp9.out _) hp9.out _) hp9.out _) hp9.out _) hp9.out _)
            have k9 : ∀ j, j ≠ p9 → ((((((wx1.setCell ⟨p9, 0, none⟩ (.slice A9 n9 c9)).setCell ⟨p9, 1, none⟩ (.int .i64 x.size)).setCell ⟨p9, 2, none⟩ (.int .i64 x.mo)).setCell ⟨p9, 3, none⟩ (.int .i64 x.fuel)).setCell ⟨p9, 4, none⟩ (.bool x.off)).setCell ⟨p9, 5, none⟩ (.int .i64 x.bad)).heap[j]? = wx1.heap[j]? := fun j hne => (heap_set _ _ _ _ hne).trans ( (heap_set _ _ _ _ hne).trans ( (heap_set _ _ _ _ hne).trans ( (heap_set _ _ _ _ hne).trans ( (heap_set _ _ _ _ hne).trans ( heap_set _ _ _ _ hne)))))
            have s9 : wx1.heap.size ≤ ((((((wx1.setCell ⟨p9, 0, none⟩ (.slice A9 n9 c9)).setCell ⟨p9, 1, none⟩ (.int .i64 x.size)).setCell ⟨p9, 2, none⟩ (.int .i64 x.mo)).setCell ⟨p9, 3, none⟩ (.int .i64 x.fuel)).setCell ⟨p9, 4, none⟩ (.bool x.off)).setCell ⟨p9, 5, none⟩ (.int .i64 x.bad)).heap.size := by simp
            obtain ⟨we, hwe⟩ : ∃ z, z = ((((((wx1.setCell ⟨p9, 0, none⟩ (.slice A9 n9 c9)).setCell ⟨p9, 1, none⟩ (.int .i64 x.size)).setCell ⟨p9, 2, none⟩ (.int .i64 x.mo)).setCell ⟨p9, 3, none⟩ (.int .i64 x.fuel)).setCell ⟨p9, 4, none⟩ (.bool x.off)).setCell ⟨p9, 5, none⟩ (.int .i64 x.bad)) := ⟨_, rfl⟩
            rw [← hwe] at q9 b9c k9 s9
            simp only [List.setIfInBounds_toArray, List.set_cons_zero, List.set_cons_succ] at b9c
            have Q9 := Lib.hid q9
            have B9 := Lib.hid b9c
            have K9 := Lib.hid k9
            have S9 := Lib.hid s9
            clear q9 b9c k9 s9
            refine aR [10] ?_
            refine AllReadyH.cons (o := _) rfl (fun K_ hK => ?_) AllReadyH.nil
            go_simp
            rw [← hwe]
            clear hwe f0 f1 f2 f3 f4 f5 g0 g1 g2 g3 g4 g5 hb9
            clear hHeld
            refine hK.out _ _ (KS.out _ Q9.out) (fun hHeld => ?_)
            clear hK K_
            refine pg ?_
            refine tkV 11 ?_
            refine wpAnyH_done (by kernel_rfl) ?_ _
            go_wp2_with fail
            go_meet
            exact ⟨p9, A9, c9, rfl, rfl, hp9, B9, Lib.hid (Zns.off Z9.out b7.out K9.out S9.out), Q9⟩
      case rest =>
      obtain ⟨p9, A9, c9, rfl, rfl, hp9, B9, Z9, Q9⟩ := hcut
      have QC := Lib.hid (QW3.out.trans Q9.out)
      have B5c := Lib.hid (B5.out.on Q9.out)
      have Z5c := Lib.hid (Z5.out.on Q9.out)
      have HL9 := Lib.hid (HLB.out.on Q9.out)
      have HMD := Lib.hid HM.out
      have hfu := HFUQ.out
      clear HFUQ CD KS HM
      cases hfu with
      | no _ h _ hx =>
        have HNX : Hid (mayD x = true ∧ x.fuel = -1 ∧ x.off = false ∧ x.bad = ((b + 1 : Nat) : Int) ∧ x.mo = 2) := Lib.hid (by
          obtain ⟨h1, h2, h3, h4, h5⟩ := HMD.out
          rw [hx]
          refine ⟨ref_may h1, h2, h3, ?_, h5⟩
          show (if d.bad = 9223372036854775807 then 0 else d.bad + 1) = ((b + 1 : Nat) : Int)
          split <;> omega)
        have CS : Hid (∀ y, Zns y y.heap.size (.slice A9 n9 c9) x.zs → Zns y y.heap.size (.slice A5 n5 c5) d.zs → Calls Try.prog 12 #[.agg #[.slice A9 n9 c9, .int .i64 x.size, .int .i64 x.mo, .int .i64 x.fuel, .bool x.off, .int .i64 d.bad], .agg #[.slice A5 n5 c5, .int .i64 d.size, .int .i64 d.mo, .int .i64 d.fuel, .bool d.off, .int .i64 d.bad]] y fun e w' => e = .returned (.bool true) ∧ Q y w') := Lib.hid (by
          intro y h1 h2
          subst hx
          have hs := may_sm HMD.out.1
          exact dsame_yes d _ _ y hs.1 (fun z hz => Nat.le_trans (hs.2 z hz) (by decide)) h1 h2)
        have smx := may_sm HNX.out.1
        have CMX := Lib.hid (fun (y : World) (u : Value) (h : Zns y y.heap.size u x.zs) => mayZ_any x u y smx h)
        have COX := Lib.hid (fun (y : World) (u : Value) (h : Zns y y.heap.size u x.zs) => rOpen_any x u y smx.1 h)
        rw [HNX.out.1] at CMX
        unfold dvV at CMX COX
        (try simp only at CMX COX)
        have hop : ¬ (2 : Int) < ((openN x.zs : Nat) : Int) := by have h1 := (mayD_iff.1 HNX.out.1).2.2.2.2.2.2.2.2; have h2 := HNX.out.2.2.2.2; omega
        have hbd : (x.bad != ((b : Int) + 1)) = false := by have := HNX.out.2.2.2.1; simp; omega
        obtain ⟨op, hop2⟩ : ∃ n, n = openN x.zs := ⟨_, rfl⟩
        rw [← hop2] at COX hop
        clear hx smx hop2
        rcases h with rfl | rfl
        · have p11 := Bx.new wc 24 #[.slice A9 n9 c9, .int .i64 x.size, .int .i64 x.mo, .int .i64 x.fuel, .bool x.off, .int .i64 d.bad]
          have q11 := (Q.refl wc).alloc (.cells #[.slice A9 n9 c9, .int .i64 x.size, .int .i64 x.mo, .int .i64 x.fuel, .bool x.off, .int .i64 d.bad] 24)
          have CS1 := Lib.hid (CS.out (wc.alloc (.cells #[.slice A9 n9 c9, .int .i64 x.size, .int .i64 x.mo, .int .i64 x.fuel, .bool x.off, .int .i64 d.bad] 24)) (Z9.out.on q11) (Z5c.out.on q11))
          obtain ⟨x0, x1, x2, x3, x4, x5⟩ : wc.cell? ⟨p9, 0, none⟩ = some (.slice A9 n9 c9) ∧ wc.cell? ⟨p9, 1, none⟩ = some (.int .i64 x.size) ∧ wc.cell? ⟨p9, 2, none⟩ = some (.int .i64 x.mo) ∧ wc.cell? ⟨p9, 3, none⟩ = some (.int .i64 x.fuel) ∧ wc.cell? ⟨p9, 4, none⟩ = some (.bool x.off) ∧ wc.cell? ⟨p9, 5, none⟩ = some (.int .i64 x.bad) := ⟨B9.out.cell 0, B9.out.cell 1, B9.out.cell 2, B9.out.cell 3, B9.out.cell 4, B9.out.cell 5⟩
          obtain ⟨y0, y1, y2, y3, y4, y5⟩ : wc.cell? ⟨p5, 0, none⟩ = some (.slice A5 n5 c5) ∧ wc.cell? ⟨p5, 1, none⟩ = some (.int .i64 d.size) ∧ wc.cell? ⟨p5, 2, none⟩ = some (.int .i64 d.mo) ∧ wc.cell? ⟨p5, 3, none⟩ = some (.int .i64 d.fuel) ∧ wc.cell? ⟨p5, 4, none⟩ = some (.bool d.off) ∧ wc.cell? ⟨p5, 5, none⟩ = some (.int .i64 d.bad) := ⟨B5c.out.cell 0, B5c.out.cell 1, B5c.out.cell 2, B5c.out.cell 3, B5c.out.cell 4, B5c.out.cell 5⟩
          have QA := Lib.hid q11
          clear q11 p11
          have z5a := (B5c.out.on ((Q.refl wc).alloc (.cells #[.slice A9 n9 c9, .int .i64 x.size, .int .i64 x.mo, .int .i64 x.fuel, .bool x.off, .int .i64 x.bad] 24))).cell 5
          have z0 := (B5c.out.on QA.out).cell 0
          have z1 := (B5c.out.on QA.out).cell 1
          have z2 := (B5c.out.on QA.out).cell 2
          have z3 := (B5c.out.on QA.out).cell 3
          have z4 := (B5c.out.on QA.out).cell 4
          have z5 := (B5c.out.on QA.out).cell 5
          simp only [List.getElem?_toArray, List.getElem?_cons_succ, List.getElem?_cons_zero] at z0 z1 z2 z3 z4 z5 z5a
          go_wp2_with fail
          refine (CS1.out).mono ?_
          rintro e v0 ⟨rfl, d0_⟩
          clear x0 x1 x2 x3 x4 x5 y0 y1 y2 y3 y4 y5 z0 z1 z2 z3 z4 z5 z5a
          have QT := Lib.hid (QA.out.trans d0_)
          clear d0_
          have T9 := Lib.hid (B9.out.on QT.out)
          obtain ⟨x0, x1, x2, x3, x4, x5⟩ : v0.cell? ⟨p9, 0, none⟩ = some (.slice A9 n9 c9) ∧ v0.cell? ⟨p9, 1, none⟩ = some (.int .i64 x.size) ∧ v0.cell? ⟨p9, 2, none⟩ = some (.int .i64 x.mo) ∧ v0.cell? ⟨p9, 3, none⟩ = some (.int .i64 x.fuel) ∧ v0.cell? ⟨p9, 4, none⟩ = some (.bool x.off) ∧ v0.cell? ⟨p9, 5, none⟩ = some (.int .i64 x.bad) := ⟨T9.out.cell 0, T9.out.cell 1, T9.out.cell 2, T9.out.cell 3, T9.out.cell 4, T9.out.cell 5⟩
          have CM1 := Lib.hid (CMX.out v0 _ (Z9.out.on QT.out))
          go_wp2_with fail
          refine (CM1.out).mono ?_
          rintro e v1 ⟨rfl, d1⟩
          clear x0 x1 x2 x3 x4 x5
          have D1 := Lib.hid (QT.out.trans d1)
          clear d1
          obtain ⟨x0, x1, x2, x3, x4, x5⟩ : v1.cell? ⟨p9, 0, none⟩ = some (.slice A9 n9 c9) ∧ v1.cell? ⟨p9, 1, none⟩ = some (.int .i64 x.size) ∧ v1.cell? ⟨p9, 2, none⟩ = some (.int .i64 x.mo) ∧ v1.cell? ⟨p9, 3, none⟩ = some (.int .i64 x.fuel) ∧ v1.cell? ⟨p9, 4, none⟩ = some (.bool x.off) ∧ v1.cell? ⟨p9, 5, none⟩ = some (.int .i64 x.bad) := ⟨(B9.out.on D1.out).cell 0, (B9.out.on D1.out).cell 1, (B9.out.on D1.out).cell 2, (B9.out.on D1.out).cell 3, (B9.out.on D1.out).cell 4, (B9.out.on D1.out).cell 5⟩
          have CO1 := Lib.hid (COX.out v1 _ (Z9.out.on D1.out))
          go_wp2_with fail
          refine (CO1.out).mono ?_
          rintro e v2 ⟨rfl, d2⟩
          clear x0 x1 x2 x3 x4 x5
          have D2 := Lib.hid (D1.out.trans d2)
          clear d2
          go_upto_region 19 with fail
          have E9 := Lib.hid (B9.out.on D2.out)
          have E5 := Lib.hid (B5c.out.on D2.out)
          have QE := Lib.hid (QC.out.trans D2.out)
          have ZE := Lib.hid (Z9.out.on D2.out)
          obtain ⟨x0, x1, x2, x3, x4, x5⟩ : v2.cell? ⟨p9, 0, none⟩ = some (.slice A9 n9 c9) ∧ v2.cell? ⟨p9, 1, none⟩ = some (.int .i64 x.size) ∧ v2.cell? ⟨p9, 2, none⟩ = some (.int .i64 x.mo) ∧ v2.cell? ⟨p9, 3, none⟩ = some (.int .i64 x.fuel) ∧ v2.cell? ⟨p9, 4, none⟩ = some (.bool x.off) ∧ v2.cell? ⟨p9, 5, none⟩ = some (.int .i64 x.bad) := ⟨E9.out.cell 0, E9.out.cell 1, E9.out.cell 2, E9.out.cell 3, E9.out.cell 4, E9.out.cell 5⟩
          obtain ⟨y0, y1, y2, y3, y4, y5⟩ : v2.cell? ⟨p5, 0, none⟩ = some (.slice A5 n5 c5) ∧ v2.cell? ⟨p5, 1, none⟩ = some (.int .i64 d.size) ∧ v2.cell? ⟨p5, 2, none⟩ = some (.int .i64 d.mo) ∧ v2.cell? ⟨p5, 3, none⟩ = some (.int .i64 d.fuel) ∧ v2.cell? ⟨p5, 4, none⟩ = some (.bool d.off) ∧ v2.cell? ⟨p5, 5, none⟩ = some (.int .i64 d.bad) := ⟨E5.out.cell 0, E5.out.cell 1, E5.out.cell 2, E5.out.cell 3, E5.out.cell 4, E5.out.cell 5⟩
          have l0 := E5.out.frozen 0
          have l1 := E5.out.frozen 1
          have l2 := E5.out.frozen 2
          have l3 := E5.out.frozen 3
          have l4 := E5.out.frozen 4
          have l5 := E5.out.frozen 5
          have c_ := ((((((E5.out.set 0 (.slice A9 n9 c9)).set 1 (.int .i64 x.size)).set 2 (.int .i64 x.mo)).set 3 (.int .i64 x.fuel)).set 4 (.bool x.off)).set 5 (.int .i64 x.bad))
          have q_ : Q w ((((((v2.setCell ⟨p5, 0, none⟩ (.slice A9 n9 c9)).setCell ⟨p5, 1, none⟩ (.int .i64 x.size)).setCell ⟨p5, 2, none⟩ (.int .i64 x.mo)).setCell ⟨p5, 3, none⟩ (.int .i64 x.fuel)).setCell ⟨p5, 4, none⟩ (.bool x.off)).setCell ⟨p5, 5, none⟩ (.int .i64 x.bad)) := (Q.set (Q.set (Q.set (Q.set (Q.set (Q.set QE.out HP5.out _) HP5.out _) HP5.out _) HP5.out _) HP5.out _) HP5.out _)
          have k_ : ∀ j, j ≠ p5 → ((((((v2.setCell ⟨p5, 0, none⟩ (.slice A9 n9 c9)).setCell ⟨p5, 1, none⟩ (.int .i64 x.size)).setCell ⟨p5, 2, none⟩ (.int .i64 x.mo)).setCell ⟨p5, 3, none⟩ (.int .i64 x.fuel)).setCell ⟨p5, 4, none⟩ (.bool x.off)).setCell ⟨p5, 5, none⟩ (.int .i64 x.bad)).heap[j]? = v2.heap[j]? := fun j hne => (heap_set _ _ _ _ hne).trans ( (heap_set _ _ _ _ hne).trans ( (heap_set _ _ _ _ hne).trans ( (heap_set _ _ _ _ hne).trans ( (heap_set _ _ _ _ hne).trans ( heap_set _ _ _ _ hne)))))
          have s_ : v2.heap.size ≤ ((((((v2.setCell ⟨p5, 0, none⟩ (.slice A9 n9 c9)).setCell ⟨p5, 1, none⟩ (.int .i64 x.size)).setCell ⟨p5, 2, none⟩ (.int .i64 x.mo)).setCell ⟨p5, 3, none⟩ (.int .i64 x.fuel)).setCell ⟨p5, 4, none⟩ (.bool x.off)).setCell ⟨p5, 5, none⟩ (.int .i64 x.bad)).heap.size := by simp
          simp only [List.setIfInBounds_toArray, List.set_cons_zero, List.set_cons_succ] at c_
          have C_ := Lib.hid c_
          have Q_ := Lib.hid q_
          have K_ := Lib.hid k_
          have S_ := Lib.hid s_
          have HLE := Lib.hid ((HL9.out.on D2.out).same (K_.out w.heap.size (by have := HPL.out; omega)))
          clear c_ q_ k_ s_
          go_wp2_with fail
          go_roundw
          case rel => exact ⟨i + 1, b + 1, x, by omega, by omega, by go_num, by first | rfl | go_num, by omega, HNX, Lib.hid ⟨A9, c9, n9, HN9.out, C_.out, Zns.off ZE.out E5.out K_.out S_.out⟩, Q_, HLE⟩
          case measure => simp [intOf]; omega
        · have p11 := Bx.new wc 24 #[.slice A9 n9 c9, .int .i64 x.size, .int .i64 x.mo, .int .i64 x.fuel, .bool x.off, .int .i64 d.bad]
          have q11 := (Q.refl wc).alloc (.cells #[.slice A9 n9 c9, .int .i64 x.size, .int .i64 x.mo, .int .i64 x.fuel, .bool x.off, .int .i64 d.bad] 24)
          have CS1 := Lib.hid (CS.out (wc.alloc (.cells #[.slice A9 n9 c9, .int .i64 x.size, .int .i64 x.mo, .int .i64 x.fuel, .bool x.off, .int .i64 d.bad] 24)) (Z9.out.on q11) (Z5c.out.on q11))
          obtain ⟨x0, x1, x2, x3, x4, x5⟩ : wc.cell? ⟨p9, 0, none⟩ = some (.slice A9 n9 c9) ∧ wc.cell? ⟨p9, 1, none⟩ = some (.int .i64 x.size) ∧ wc.cell? ⟨p9, 2, none⟩ = some (.int .i64 x.mo) ∧ wc.cell? ⟨p9, 3, none⟩ = some (.int .i64 x.fuel) ∧ wc.cell? ⟨p9, 4, none⟩ = some (.bool x.off) ∧ wc.cell? ⟨p9, 5, none⟩ = some (.int .i64 x.bad) := ⟨B9.out.cell 0, B9.out.cell 1, B9.out.cell 2, B9.out.cell 3, B9.out.cell 4, B9.out.cell 5⟩
          obtain ⟨y0, y1, y2, y3, y4, y5⟩ : wc.cell? ⟨p5, 0, none⟩ = some (.slice A5 n5 c5) ∧ wc.cell? ⟨p5, 1, none⟩ = some (.int .i64 d.size) ∧ wc.cell? ⟨p5, 2, none⟩ = some (.int .i64 d.mo) ∧ wc.cell? ⟨p5, 3, none⟩ = some (.int .i64 d.fuel) ∧ wc.cell? ⟨p5, 4, none⟩ = some (.bool d.off) ∧ wc.cell? ⟨p5, 5, none⟩ = some (.int .i64 d.bad) := ⟨B5c.out.cell 0, B5c.out.cell 1, B5c.out.cell 2, B5c.out.cell 3, B5c.out.cell 4, B5c.out.cell 5⟩
          have QA := Lib.hid q11
          clear q11 p11
          have z5a := (B5c.out.on ((Q.refl wc).alloc (.cells #[.slice A9 n9 c9, .int .i64 x.size, .int .i64 x.mo, .int .i64 x.fuel, .bool x.off, .int .i64 x.bad] 24))).cell 5
          have z0 := (B5c.out.on QA.out).cell 0
          have z1 := (B5c.out.on QA.out).cell 1
          have z2 := (B5c.out.on QA.out).cell 2
          have z3 := (B5c.out.on QA.out).cell 3
          have z4 := (B5c.out.on QA.out).cell 4
          have z5 := (B5c.out.on QA.out).cell 5
          simp only [List.getElem?_toArray, List.getElem?_cons_succ, List.getElem?_cons_zero] at z0 z1 z2 z3 z4 z5 z5a
          go_wp2_with fail
          refine (CS1.out).mono ?_
          rintro e v0 ⟨rfl, d0_⟩
          clear x0 x1 x2 x3 x4 x5 y0 y1 y2 y3 y4 y5 z0 z1 z2 z3 z4 z5 z5a
          have QT := Lib.hid (QA.out.trans d0_)
          clear d0_
          have T9 := Lib.hid (B9.out.on QT.out)
          obtain ⟨x0, x1, x2, x3, x4, x5⟩ : v0.cell? ⟨p9, 0, none⟩ = some (.slice A9 n9 c9) ∧ v0.cell? ⟨p9, 1, none⟩ = some (.int .i64 x.size) ∧ v0.cell? ⟨p9, 2, none⟩ = some (.int .i64 x.mo) ∧ v0.cell? ⟨p9, 3, none⟩ = some (.int .i64 x.fuel) ∧ v0.cell? ⟨p9, 4, none⟩ = some (.bool x.off) ∧ v0.cell? ⟨p9, 5, none⟩ = some (.int .i64 x.bad) := ⟨T9.out.cell 0, T9.out.cell 1, T9.out.cell 2, T9.out.cell 3, T9.out.cell 4, T9.out.cell 5⟩
          have CM1 := Lib.hid (CMX.out v0 _ (Z9.out.on QT.out))
          go_wp2_with fail
          refine (CM1.out).mono ?_
          rintro e v1 ⟨rfl, d1⟩
          clear x0 x1 x2 x3 x4 x5
          have D1 := Lib.hid (QT.out.trans d1)
          clear d1
          obtain ⟨x0, x1, x2, x3, x4, x5⟩ : v1.cell? ⟨p9, 0, none⟩ = some (.slice A9 n9 c9) ∧ v1.cell? ⟨p9, 1, none⟩ = some (.int .i64 x.size) ∧ v1.cell? ⟨p9, 2, none⟩ = some (.int .i64 x.mo) ∧ v1.cell? ⟨p9, 3, none⟩ = some (.int .i64 x.fuel) ∧ v1.cell? ⟨p9, 4, none⟩ = some (.bool x.off) ∧ v1.cell? ⟨p9, 5, none⟩ = some (.int .i64 x.bad) := ⟨(B9.out.on D1.out).cell 0, (B9.out.on D1.out).cell 1, (B9.out.on D1.out).cell 2, (B9.out.on D1.out).cell 3, (B9.out.on D1.out).cell 4, (B9.out.on D1.out).cell 5⟩
          have CO1 := Lib.hid (COX.out v1 _ (Z9.out.on D1.out))
          go_wp2_with fail
          refine (CO1.out).mono ?_
          rintro e v2 ⟨rfl, d2⟩
          clear x0 x1 x2 x3 x4 x5
          have D2 := Lib.hid (D1.out.trans d2)
          clear d2
          go_upto_region 19 with fail
          have E9 := Lib.hid (B9.out.on D2.out)
          have E5 := Lib.hid (B5c.out.on D2.out)
          have QE := Lib.hid (QC.out.trans D2.out)
          have ZE := Lib.hid (Z9.out.on D2.out)
          obtain ⟨x0, x1, x2, x3, x4, x5⟩ : v2.cell? ⟨p9, 0, none⟩ = some (.slice A9 n9 c9) ∧ v2.cell? ⟨p9, 1, none⟩ = some (.int .i64 x.size) ∧ v2.cell? ⟨p9, 2, none⟩ = some (.int .i64 x.mo) ∧ v2.cell? ⟨p9, 3, none⟩ = some (.int .i64 x.fuel) ∧ v2.cell? ⟨p9, 4, none⟩ = some (.bool x.off) ∧ v2.cell? ⟨p9, 5, none⟩ = some (.int .i64 x.bad) := ⟨E9.out.cell 0, E9.out.cell 1, E9.out.cell 2, E9.out.cell 3, E9.out.cell 4, E9.out.cell 5⟩
          obtain ⟨y0, y1, y2, y3, y4, y5⟩ : v2.cell? ⟨p5, 0, none⟩ = some (.slice A5 n5 c5) ∧ v2.cell? ⟨p5, 1, none⟩ = some (.int .i64 d.size) ∧ v2.cell? ⟨p5, 2, none⟩ = some (.int .i64 d.mo) ∧ v2.cell? ⟨p5, 3, none⟩ = some (.int .i64 d.fuel) ∧ v2.cell? ⟨p5, 4, none⟩ = some (.bool d.off) ∧ v2.cell? ⟨p5, 5, none⟩ = some (.int .i64 d.bad) := ⟨E5.out.cell 0, E5.out.cell 1, E5.out.cell 2, E5.out.cell 3, E5.out.cell 4, E5.out.cell 5⟩
          have l0 := E5.out.frozen 0
          have l1 := E5.out.frozen 1
          have l2 := E5.out.frozen 2
          have l3 := E5.out.frozen 3
          have l4 := E5.out.frozen 4
          have l5 := E5.out.frozen 5
          have c_ := ((((((E5.out.set 0 (.slice A9 n9 c9)).set 1 (.int .i64 x.size)).set 2 (.int .i64 x.mo)).set 3 (.int .i64 x.fuel)).set 4 (.bool x.off)).set 5 (.int .i64 x.bad))
          have q_ : Q w ((((((v2.setCell ⟨p5, 0, none⟩ (.slice A9 n9 c9)).setCell ⟨p5, 1, none⟩ (.int .i64 x.size)).setCell ⟨p5, 2, none⟩ (.int .i64 x.mo)).setCell ⟨p5, 3, none⟩ (.int .i64 x.fuel)).setCell ⟨p5, 4, none⟩ (.bool x.off)).setCell ⟨p5, 5, none⟩ (.int .i64 x.bad)) := (Q.set (Q.set (Q.set (Q.set (Q.set (Q.set QE.out HP5.out _) HP5.out _) HP5.out _) HP5.out _) HP5.out _) HP5.out _)
          have k_ : ∀ j, j ≠ p5 → ((((((v2.setCell ⟨p5, 0, none⟩ (.slice A9 n9 c9)).setCell ⟨p5, 1, none⟩ (.int .i64 x.size)).setCell ⟨p5, 2, none⟩ (.int .i64 x.mo)).setCell ⟨p5, 3, none⟩ (.int .i64 x.fuel)).setCell ⟨p5, 4, none⟩ (.bool x.off)).setCell ⟨p5, 5, none⟩ (.int .i64 x.bad)).heap[j]? = v2.heap[j]? := fun j hne => (heap_set _ _ _ _ hne).trans ( (heap_set _ _ _ _ hne).trans ( (heap_set _ _ _ _ hne).trans ( (heap_set _ _ _ _ hne).trans ( (heap_set _ _ _ _ hne).trans ( heap_set _ _ _ _ hne)))))
          have s_ : v2.heap.size ≤ ((((((v2.setCell ⟨p5, 0, none⟩ (.slice A9 n9 c9)).setCell ⟨p5, 1, none⟩ (.int .i64 x.size)).setCell ⟨p5, 2, none⟩ (.int .i64 x.mo)).setCell ⟨p5, 3, none⟩ (.int .i64 x.fuel)).setCell ⟨p5, 4, none⟩ (.bool x.off)).setCell ⟨p5, 5, none⟩ (.int .i64 x.bad)).heap.size := by simp
          simp only [List.setIfInBounds_toArray, List.set_cons_zero, List.set_cons_succ] at c_
          have C_ := Lib.hid c_
          have Q_ := Lib.hid q_
          have K_ := Lib.hid k_
          have S_ := Lib.hid s_
          have HLE := Lib.hid ((HL9.out.on D2.out).same (K_.out w.heap.size (by have := HPL.out; omega)))
          clear c_ q_ k_ s_
          go_wp2_with fail
          go_roundw
          case rel => exact ⟨i + 1, b + 1, x, by omega, by omega, by go_num, by first | rfl | go_num, by omega, HNX, Lib.hid ⟨A9, c9, n9, HN9.out, C_.out, Zns.off ZE.out E5.out K_.out S_.out⟩, Q_, HLE⟩
          case measure => simp [intOf]; omega
      | yes _ may hf ho hm hb =>
        have HNX : Hid (mayD x = true ∧ x.fuel = -1 ∧ x.off = false ∧ x.bad = (b : Int) ∧ x.mo = 2) := Lib.hid ⟨may, hf, ho, by rw [hb]; exact HMD.out.2.2.2.1, by rw [hm]; exact HMD.out.2.2.2.2⟩
        have smx := may_sm may
        have CMX := Lib.hid (fun (y : World) (u : Value) (h : Zns y y.heap.size u x.zs) => mayZ_any x u y smx h)
        have COX := Lib.hid (fun (y : World) (u : Value) (h : Zns y y.heap.size u x.zs) => rOpen_any x u y smx.1 h)
        rw [may] at CMX
        unfold dvV at CMX COX
        (try simp only at CMX COX)
        have hop : ¬ (2 : Int) < ((openN x.zs : Nat) : Int) := by have h1 := (mayD_iff.1 may).2.2.2.2.2.2.2.2; have h2 := HNX.out.2.2.2.2; omega
        have hbd : (x.bad != (b : Int)) = false := by have := HNX.out.2.2.2.1; simp; omega
        obtain ⟨op, hop2⟩ : ∃ n, n = openN x.zs := ⟨_, rfl⟩
        rw [← hop2] at COX hop
        clear smx hop2 may hf ho hm hb
        have QT : Hid (Q wc wc) := Lib.hid (Q.refl _)
        have T9 := Lib.hid (B9.out.on QT.out)
        obtain ⟨x0, x1, x2, x3, x4, x5⟩ : wc.cell? ⟨p9, 0, none⟩ = some (.slice A9 n9 c9) ∧ wc.cell? ⟨p9, 1, none⟩ = some (.int .i64 x.size) ∧ wc.cell? ⟨p9, 2, none⟩ = some (.int .i64 x.mo) ∧ wc.cell? ⟨p9, 3, none⟩ = some (.int .i64 x.fuel) ∧ wc.cell? ⟨p9, 4, none⟩ = some (.bool x.off) ∧ wc.cell? ⟨p9, 5, none⟩ = some (.int .i64 x.bad) := ⟨T9.out.cell 0, T9.out.cell 1, T9.out.cell 2, T9.out.cell 3, T9.out.cell 4, T9.out.cell 5⟩
        have CM1 := Lib.hid (CMX.out wc _ (Z9.out.on QT.out))
        go_wp2_with fail
        refine (CM1.out).mono ?_
        rintro e v1 ⟨rfl, d1⟩
        clear x0 x1 x2 x3 x4 x5
        have D1 := Lib.hid (QT.out.trans d1)
        clear d1
        obtain ⟨x0, x1, x2, x3, x4, x5⟩ : v1.cell? ⟨p9, 0, none⟩ = some (.slice A9 n9 c9) ∧ v1.cell? ⟨p9, 1, none⟩ = some (.int .i64 x.size) ∧ v1.cell? ⟨p9, 2, none⟩ = some (.int .i64 x.mo) ∧ v1.cell? ⟨p9, 3, none⟩ = some (.int .i64 x.fuel) ∧ v1.cell? ⟨p9, 4, none⟩ = some (.bool x.off) ∧ v1.cell? ⟨p9, 5, none⟩ = some (.int .i64 x.bad) := ⟨(B9.out.on D1.out).cell 0, (B9.out.on D1.out).cell 1, (B9.out.on D1.out).cell 2, (B9.out.on D1.out).cell 3, (B9.out.on D1.out).cell 4, (B9.out.on D1.out).cell 5⟩
        have CO1 := Lib.hid (COX.out v1 _ (Z9.out.on D1.out))
        go_wp2_with fail
        refine (CO1.out).mono ?_
        rintro e v2 ⟨rfl, d2⟩
        clear x0 x1 x2 x3 x4 x5
        have D2 := Lib.hid (D1.out.trans d2)
        clear d2
        go_upto_region 19 with fail
        have E9 := Lib.hid (B9.out.on D2.out)
        have E5 := Lib.hid (B5c.out.on D2.out)
        have QE := Lib.hid (QC.out.trans D2.out)
        have ZE := Lib.hid (Z9.out.on D2.out)
        obtain ⟨x0, x1, x2, x3, x4, x5⟩ : v2.cell? ⟨p9, 0, none⟩ = some (.slice A9 n9 c9) ∧ v2.cell? ⟨p9, 1, none⟩ = some (.int .i64 x.size) ∧ v2.cell? ⟨p9, 2, none⟩ = some (.int .i64 x.mo) ∧ v2.cell? ⟨p9, 3, none⟩ = some (.int .i64 x.fuel) ∧ v2.cell? ⟨p9, 4, none⟩ = some (.bool x.off) ∧ v2.cell? ⟨p9, 5, none⟩ = some (.int .i64 x.bad) := ⟨E9.out.cell 0, E9.out.cell 1, E9.out.cell 2, E9.out.cell 3, E9.out.cell 4, E9.out.cell 5⟩
        obtain ⟨y0, y1, y2, y3, y4, y5⟩ : v2.cell? ⟨p5, 0, none⟩ = some (.slice A5 n5 c5) ∧ v2.cell? ⟨p5, 1, none⟩ = some (.int .i64 d.size) ∧ v2.cell? ⟨p5, 2, none⟩ = some (.int .i64 d.mo) ∧ v2.cell? ⟨p5, 3, none⟩ = some (.int .i64 d.fuel) ∧ v2.cell? ⟨p5, 4, none⟩ = some (.bool d.off) ∧ v2.cell? ⟨p5, 5, none⟩ = some (.int .i64 d.bad) := ⟨E5.out.cell 0, E5.out.cell 1, E5.out.cell 2, E5.out.cell 3, E5.out.cell 4, E5.out.cell 5⟩
        have l0 := E5.out.frozen 0
        have l1 := E5.out.frozen 1
        have l2 := E5.out.frozen 2
        have l3 := E5.out.frozen 3
        have l4 := E5.out.frozen 4
        have l5 := E5.out.frozen 5
        have c_ := ((((((E5.out.set 0 (.slice A9 n9 c9)).set 1 (.int .i64 x.size)).set 2 (.int .i64 x.mo)).set 3 (.int .i64 x.fuel)).set 4 (.bool x.off)).set 5 (.int .i64 x.bad))
        have q_ : Q w ((((((v2.setCell ⟨p5, 0, none⟩ (.slice A9 n9 c9)).setCell ⟨p5, 1, none⟩ (.int .i64 x.size)).setCell ⟨p5, 2, none⟩ (.int .i64 x.mo)).setCell ⟨p5, 3, none⟩ (.int .i64 x.fuel)).setCell ⟨p5, 4, none⟩ (.bool x.off)).setCell ⟨p5, 5, none⟩ (.int .i64 x.bad)) := (Q.set (Q.set (Q.set (Q.set (Q.set (Q.set QE.out HP5.out _) HP5.out _) HP5.out _) HP5.out _) HP5.out _) HP5.out _)
        have k_ : ∀ j, j ≠ p5 → ((((((v2.setCell ⟨p5, 0, none⟩ (.slice A9 n9 c9)).setCell ⟨p5, 1, none⟩ (.int .i64 x.size)).setCell ⟨p5, 2, none⟩ (.int .i64 x.mo)).setCell ⟨p5, 3, none⟩ (.int .i64 x.fuel)).setCell ⟨p5, 4, none⟩ (.bool x.off)).setCell ⟨p5, 5, none⟩ (.int .i64 x.bad)).heap[j]? = v2.heap[j]? := fun j hne => (heap_set _ _ _ _ hne).trans ( (heap_set _ _ _ _ hne).trans ( (heap_set _ _ _ _ hne).trans ( (heap_set _ _ _ _ hne).trans ( (heap_set _ _ _ _ hne).trans ( heap_set _ _ _ _ hne)))))
        have s_ : v2.heap.size ≤ ((((((v2.setCell ⟨p5, 0, none⟩ (.slice A9 n9 c9)).setCell ⟨p5, 1, none⟩ (.int .i64 x.size)).setCell ⟨p5, 2, none⟩ (.int .i64 x.mo)).setCell ⟨p5, 3, none⟩ (.int .i64 x.fuel)).setCell ⟨p5, 4, none⟩ (.bool x.off)).setCell ⟨p5, 5, none⟩ (.int .i64 x.bad)).heap.size := by simp
        simp only [List.setIfInBounds_toArray, List.set_cons_zero, List.set_cons_succ] at c_
        have C_ := Lib.hid c_
        have Q_ := Lib.hid q_
        have K_ := Lib.hid k_
        have S_ := Lib.hid s_
        have HLE := Lib.hid ((HL9.out.on D2.out).same (K_.out w.heap.size (by have := HPL.out; omega)))
        clear c_ q_ k_ s_
        go_wp2_with fail
        go_roundw
        case rel => exact ⟨i + 1, b, x, by omega, by omega, by go_num, by first | rfl | go_num, by omega, HNX, Lib.hid ⟨A9, c9, n9, HN9.out, C_.out, Zns.off ZE.out E5.out K_.out S_.out⟩, Q_, HLE⟩
        case measure => simp [intOf]; omega
    · have HMI := Lib.hid HM.out.1
      obtain ⟨A5, c5, n5, hn5, b5, z5⟩ := HB.out
      have QX := Lib.hid HQ.out
      have CC1 := Lib.hid (CC.out d _ W3 (may_sm HMI.out) z5 QX.out)
      have hcm := crash_may HMI.out o
      have hco := crash_open HMI.out o
      obtain ⟨cx, hcx⟩ : ∃ y, y = crashD d o := ⟨_, rfl⟩
      rw [← hcx] at CC1 hcm hco
      have CM3 := Lib.hid (fun (y : World) (u : Value) (h : Zns y y.heap.size u cx.zs) => mayZ_any cx u y (may_sm hcm) h)
      have CO3 := Lib.hid (fun (y : World) (u : Value) (h : Zns y y.heap.size u cx.zs) => rOpen_any cx u y (may_sm hcm).1 h)
      rw [hcm] at CM3
      rw [hco] at CO3
      unfold dvV at CC1 CM3 CO3
      (try simp only at CC1 CM3 CO3)
      obtain ⟨x0, x1, x2, x3, x4, x5⟩ : W3.cell? ⟨p5, 0, none⟩ = some (.slice A5 n5 c5) ∧ W3.cell? ⟨p5, 1, none⟩ = some (.int .i64 d.size) ∧ W3.cell? ⟨p5, 2, none⟩ = some (.int .i64 d.mo) ∧ W3.cell? ⟨p5, 3, none⟩ = some (.int .i64 d.fuel) ∧ W3.cell? ⟨p5, 4, none⟩ = some (.bool d.off) ∧ W3.cell? ⟨p5, 5, none⟩ = some (.int .i64 d.bad) := ⟨b5.cell 0, b5.cell 1, b5.cell 2, b5.cell 3, b5.cell 4, b5.cell 5⟩
      obtain ⟨y0, y1, y2⟩ : W3.cell? ⟨w.heap.size, 0, none⟩ = some (.slice AK nk cK) ∧ W3.cell? ⟨w.heap.size, 1, none⟩ = some (.int .i64 zo) ∧ W3.cell? ⟨w.heap.size, 2, none⟩ = some (.int .i64 cu) := ⟨HLB.out.cell 0, HLB.out.cell 1, HLB.out.cell 2⟩
      clear b5 z5 HB HM HQ HLB hn5 hcm hco hcx CC
      by_cases hlt1 : i < l.length
      · have hil1 : (i : Int) < (l.length : Int) := by omega
        have hil2 : ¬ (i : Int) < 60 := by omega
        go_wp2_with fail
        refine (CC1.out).mono ?_
        rintro e v1 ⟨u1, rfl, hu1, d1⟩
        clear x0 x1 x2 x3 x4 x5 y0 y1 y2
        obtain ⟨A7, c7, rfl⟩ := hu1.form
        obtain ⟨n7, hn7⟩ : ∃ n, n = cx.zs.length := ⟨_, rfl⟩
        rw [← hn7] at hu1
        have ba := Bx.new v1 24 #[.slice A7 n7 c7, .int .i64 cx.size, .int .i64 cx.mo, .int .i64 cx.fuel, .bool cx.off, .int .i64 cx.bad]
        have qa := (Q.refl v1).alloc (.cells #[.slice A7 n7 c7, .int .i64 cx.size, .int .i64 cx.mo, .int .i64 cx.fuel, .bool cx.off, .int .i64 cx.bad] 24)
        have za := hu1.on qa
        obtain ⟨p7, hp7⟩ : ∃ p, p = v1.heap.size := ⟨_, rfl⟩
        obtain ⟨va, hva⟩ : ∃ z, z = v1.alloc (.cells #[.slice A7 n7 c7, .int .i64 cx.size, .int .i64 cx.mo, .int .i64 cx.fuel, .bool cx.off, .int .i64 cx.bad] 24) := ⟨_, rfl⟩
        unfold dvV
        rw [← hn7]
        clear hn7
        rw [← hp7, ← hva] at ba
        rw [← hva] at qa za
        go_upto_region 21 with fail
        rw [← hp7, ← hva]
        clear hp7 hva hu1
        have BA := Lib.hid ba
        have QA := Lib.hid ((QX.out.trans d1).trans qa)
        have CM2 := Lib.hid (CM3.out va _ za)
        have CO2 := Lib.hid (fun (y : World) (q : Q va y) => CO3.out y _ (za.on q))
        obtain ⟨x0, x1, x2, x3, x4, x5⟩ : va.cell? ⟨p7, 0, none⟩ = some (.slice A7 n7 c7) ∧ va.cell? ⟨p7, 1, none⟩ = some (.int .i64 cx.size) ∧ va.cell? ⟨p7, 2, none⟩ = some (.int .i64 cx.mo) ∧ va.cell? ⟨p7, 3, none⟩ = some (.int .i64 cx.fuel) ∧ va.cell? ⟨p7, 4, none⟩ = some (.bool cx.off) ∧ va.cell? ⟨p7, 5, none⟩ = some (.int .i64 cx.bad) := ⟨BA.out.cell 0, BA.out.cell 1, BA.out.cell 2, BA.out.cell 3, BA.out.cell 4, BA.out.cell 5⟩
        clear ba qa d1 za
        go_wp2_with fail
        refine (CM2.out).mono ?_
        rintro e v2 ⟨rfl, d2⟩
        clear x0 x1 x2 x3 x4 x5
        obtain ⟨x0, x1, x2, x3, x4, x5⟩ : v2.cell? ⟨p7, 0, none⟩ = some (.slice A7 n7 c7) ∧ v2.cell? ⟨p7, 1, none⟩ = some (.int .i64 cx.size) ∧ v2.cell? ⟨p7, 2, none⟩ = some (.int .i64 cx.mo) ∧ v2.cell? ⟨p7, 3, none⟩ = some (.int .i64 cx.fuel) ∧ v2.cell? ⟨p7, 4, none⟩ = some (.bool cx.off) ∧ v2.cell? ⟨p7, 5, none⟩ = some (.int .i64 cx.bad) := ⟨(BA.out.on d2).cell 0, (BA.out.on d2).cell 1, (BA.out.on d2).cell 2, (BA.out.on d2).cell 3, (BA.out.on d2).cell 4, (BA.out.on d2).cell 5⟩
        have CO4 := Lib.hid (CO2.out _ d2)
        have D2 := Lib.hid d2
        clear d2
        go_wp2_with fail
        refine (CO4.out).mono ?_
        rintro e v3 ⟨rfl, d3⟩
        have D3 := Lib.hid (D2.out.trans d3)
        clear d3
        go_wp2_with fail
        refine (AW.out _).mono ?_
        rintro e v4 ⟨rfl, d4⟩
        go_wp2
        go_ret
        exact ⟨rfl, (QA.out.trans D3.out).trans d4⟩
      · have hil1 : ¬ (i : Int) < (l.length : Int) := by omega
        go_wp2_with fail
        refine (CC1.out).mono ?_
        rintro e v1 ⟨u1, rfl, hu1, d1⟩
        clear x0 x1 x2 x3 x4 x5 y0 y1 y2
        obtain ⟨A7, c7, rfl⟩ := hu1.form
        obtain ⟨n7, hn7⟩ : ∃ n, n = cx.zs.length := ⟨_, rfl⟩
        rw [← hn7] at hu1
        have ba := Bx.new v1 24 #[.slice A7 n7 c7, .int .i64 cx.size, .int .i64 cx.mo, .int .i64 cx.fuel, .bool cx.off, .int .i64 cx.bad]
        have qa := (Q.refl v1).alloc (.cells #[.slice A7 n7 c7, .int .i64 cx.size, .int .i64 cx.mo, .int .i64 cx.fuel, .bool cx.off, .int .i64 cx.bad] 24)
        have za := hu1.on qa
        obtain ⟨p7, hp7⟩ : ∃ p, p = v1.heap.size := ⟨_, rfl⟩
        obtain ⟨va, hva⟩ : ∃ z, z = v1.alloc (.cells #[.slice A7 n7 c7, .int .i64 cx.size, .int .i64 cx.mo, .int .i64 cx.fuel, .bool cx.off, .int .i64 cx.bad] 24) := ⟨_, rfl⟩
        unfold dvV
        rw [← hn7]
        clear hn7
        rw [← hp7, ← hva] at ba
        rw [← hva] at qa za
        go_upto_region 21 with fail
        rw [← hp7, ← hva]
        clear hp7 hva hu1
        have BA := Lib.hid ba
        have QA := Lib.hid ((QX.out.trans d1).trans qa)
        have CM2 := Lib.hid (CM3.out va _ za)
        have CO2 := Lib.hid (fun (y : World) (q : Q va y) => CO3.out y _ (za.on q))
        obtain ⟨x0, x1, x2, x3, x4, x5⟩ : va.cell? ⟨p7, 0, none⟩ = some (.slice A7 n7 c7) ∧ va.cell? ⟨p7, 1, none⟩ = some (.int .i64 cx.size) ∧ va.cell? ⟨p7, 2, none⟩ = some (.int .i64 cx.mo) ∧ va.cell? ⟨p7, 3, none⟩ = some (.int .i64 cx.fuel) ∧ va.cell? ⟨p7, 4, none⟩ = some (.bool cx.off) ∧ va.cell? ⟨p7, 5, none⟩ = some (.int .i64 cx.bad) := ⟨BA.out.cell 0, BA.out.cell 1, BA.out.cell 2, BA.out.cell 3, BA.out.cell 4, BA.out.cell 5⟩
        clear ba qa d1 za
        go_wp2_with fail
        refine (CM2.out).mono ?_
        rintro e v2 ⟨rfl, d2⟩
        clear x0 x1 x2 x3 x4 x5
        obtain ⟨x0, x1, x2, x3, x4, x5⟩ : v2.cell? ⟨p7, 0, none⟩ = some (.slice A7 n7 c7) ∧ v2.cell? ⟨p7, 1, none⟩ = some (.int .i64 cx.size) ∧ v2.cell? ⟨p7, 2, none⟩ = some (.int .i64 cx.mo) ∧ v2.cell? ⟨p7, 3, none⟩ = some (.int .i64 cx.fuel) ∧ v2.cell? ⟨p7, 4, none⟩ = some (.bool cx.off) ∧ v2.cell? ⟨p7, 5, none⟩ = some (.int .i64 cx.bad) := ⟨(BA.out.on d2).cell 0, (BA.out.on d2).cell 1, (BA.out.on d2).cell 2, (BA.out.on d2).cell 3, (BA.out.on d2).cell 4, (BA.out.on d2).cell 5⟩
        have CO4 := Lib.hid (CO2.out _ d2)
        have D2 := Lib.hid d2
        clear d2
        go_wp2_with fail
        refine (CO4.out).mono ?_
        rintro e v3 ⟨rfl, d3⟩
        have D3 := Lib.hid (D2.out.trans d3)
        clear d3
        go_wp2_with fail
        refine (AW.out _).mono ?_
        rintro e v4 ⟨rfl, d4⟩
        go_wp2
        go_ret
        exact ⟨rfl, (QA.out.trans D3.out).trans d4⟩

set_option maxRecDepth 100000 in
theorem lifted (os : Os) (started : os.Started) (H : Type) (enc : TypeId × Value → H) :
    ReturnsInHanded {} Try.checked os 4 .any (Rows.zoneStaysSpec.pre6 enc Try.prog Try.f4 Rows.zoneStaysRow.domain false) (Rows.zoneStaysSpec.post enc Try.prog Try.f4 false true false false) := by
  refine returnsInHanded_of_change (C := Try.checked) own started (by kernel_rfl) Try.func4
    (ChangeSpec.witness6 (enc := enc) (C := Try.checked) false ⟨#[], #[.slice none 0 0, .agg #[.slice none 0 0, .int .i64 0, .int .i64 0]], []⟩ 8 (by kernel_rfl) (by kernel_rfl) (by kernel_rfl) (by kernel_rfl)) ?_
  intro W base args ds gs before hval0 hW hcnd _
  have hval : ∀ (j : Nat) t v, Try.f4.params[j]? = some t → args[j]? = some v → Value.okWide Try.prog W .any base t v := hval0
  have hW' := hW
  obtain ⟨p, q, hA0, hV, rfl, hfz, hnd⟩ := hW
  have hA : DataW.TrodAll enc Try.prog W 0 (fun _ => true) true Try.f4.params.toList args.toList ds p := hA0
  rw [Try.params4] at hA hval
  obtain ⟨v0, vs0, d0, ds0, p0, q0, hargs, rfl, rfl, h0, r0⟩ := trodAll_cons hA
  obtain ⟨v1, vs1, d1, ds1, p1, q1, rfl, rfl, rfl, h1, r1⟩ := trodAll_cons r0
  obtain ⟨rfl, rfl, rfl⟩ := trodAll_nil r1
  obtain rfl : args = #[v0, v1] := by cases args; simp_all
  obtain ⟨rfl, rfl⟩ := trodVars_none hV
  clear hA0 hval0
  simp only [List.append_nil] at hW'
  have hlt : ∀ x ∈ p0 ++ p1, x.block < W.heap.size := fun x hx => by simpa using hW'.lt x (by simpa using hx)
  obtain ⟨l0, t0, z0⟩ := open_acs (hval 0 47 v0 rfl rfl) h0
  obtain ⟨o1, u1, rfl, t1, y1⟩ := open_ls (hval 1 27 v1 rfl rfl) h1
  refine (walk l0 v0 o1 u1 W t0 z0 t1 y1).mono fun e W' ⟨he, bel⟩ => ?_
  subst he
  refine ⟨_, rfl, _, _, _, [], _, [], hW', trodAll_mk1 (shut_bool Try.underlying4 _), (trodAll_cons_mk (Below.trod laid (by kernel_rfl) (of_decide_eq_true (by kernel_rfl)) h0 bel (fun x hx => hlt x (by simp [hx]))) (trodAll_cons_mk (Below.trod laid (by kernel_rfl) (of_decide_eq_true (by kernel_rfl)) h1 bel (fun x hx => hlt x (by simp [hx]))) trodAll_mk0)), rfl, Below.frame bel _, fun h => by cases h⟩

theorem over : Rows.zoneStaysRow.holds Try.pinned (OpenSpec.ofChange Rows.zoneStaysSpec) :=
  OpenClaim.holds_of_wide 4 Try.f4 rfl rfl rfl rfl rfl rfl rfl ⟨rfl, rfl, rfl, rfl, rfl⟩ rfl rfl rfl rfl rfl (by kernel_rfl) Try.func4 (by kernel_rfl)
    (of_decide_eq_true (by kernel_rfl)) (by unfold Func.isWrapper; first | (rw [if_pos (by decide +kernel)]; kernel_rfl) | (rw [if_neg (by decide +kernel)]; exact ⟨rfl, rfl⟩))
    (fun os started H enc _ => lifted os started H enc)

theorem proved : Rows.ZoneStaysSaid := over
#print axioms proved
end Go.Proofs.Yteoondmakdghhaa.zoneStays
