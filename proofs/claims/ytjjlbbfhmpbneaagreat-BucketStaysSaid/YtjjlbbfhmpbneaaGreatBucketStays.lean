/-
  Proved: whatever acts BucketStays is called with, it returns true and leaves what it was given as it was. No condition.
-/
import Derived.Test.YtjjlbbfhmpbneaaGreatIa
import Derived.Test.YtjjlbbfhmpbneaaGreatHy
namespace Go.Proofs.YtjjlbbfhmpbneaaGreat.bucketStays
set_option maxRecDepth 100000
open Go.ChangeShapes Go.WideShapes Go.ChangeAt Go.RowKit Go.Shelf
open Go.ChangeMaps (open_string shut_string)
set_option linter.unusedVariables false
set_option linter.unusedSimpArgs false

/-- What the loop keeps: the bucket may be, it lies in its box, and no number above its last is in the map. -/
def Stay (w wr : World) (pb pm : Nat) (b : Bkt) (i : Nat) : Prop := okB b ∧ BoxB wr pb b ∧ InU pm (i + 1) b.last wr ∧ Q w wr ∧ pb ≠ pm ∧ w.heap.size ≤ pb ∧ w.heap.size ≤ pm
theorem Stay.on {w wr w' : World} {pb pm i : Nat} {b : Bkt} (h : Stay w wr pb pm b i) (q : Q wr w') : Stay w w' pb pm b i := by
  obtain ⟨r1, r2, r3, r4, r5⟩ := h
  exact ⟨r1, r2.on q, r3.on q, r4.trans q, r5⟩
theorem last_top {b : Bkt} (h : okB b) : b.last < 18446744073709551616 := by have := h.2.2.1; omega
set_option maxHeartbeats 32000000 in
set_option maxRecDepth 100000 in
theorem walk (l : List Actn) (v : Value) (w : World) (t0 : Acts w w.heap.size v l) (z0 : l.length ≤ maxLen) :
    Calls Tryz.prog 4 #[v] w fun e w' => e = .returned (.bool true) ∧ Q w w' := by
  obtain ⟨A, c, rfl⟩ := t0.form
  have T0 := Lib.hid t0
  have C0 := Lib.hid fun x => bnew_any ⟨#[98, 111, 120]⟩ x (by decide) (by decide)
  simp only [bkt, List.length_nil] at C0
  have AW := Lib.hid fun x => awakeB_any x
  have hmm := @run_makeMap Tryz.prog
  clear t0
  go_enter Tryz.func4, Tryz.ntmps4
  go_wp2_with fail
  refine (C0.out _).mono ?_
  rintro e w1 ⟨rfl, q1⟩
  go_upto_region 4 with fail
  have Z1 : Hid (BoxB (w1.alloc (.cells #[.string ⟨#[98, 111, 120]⟩, .int .i64 0, .slice none 0 0, .slice none 0 0, .int .u64 0] 26)) w1.heap.size awk9.b0) := Lib.hid (BoxB.new (d := awk9.b0) (A := none) (c := 0) (A' := none) (c' := 0) ⟨Ents.nil _ _, Upls.nil _ _⟩)
  have Q1 := Lib.hid (q1.alloc (.cells #[.string ⟨#[98, 111, 120]⟩, .int .i64 0, .slice none 0 0, .slice none 0 0, .int .u64 0] 26))
  obtain ⟨x1, hx1⟩ : ∃ z, z = w1.alloc (.cells #[.string ⟨#[98, 111, 120]⟩, .int .i64 0, .slice none 0 0, .slice none 0 0, .int .u64 0] 26) := ⟨_, rfl⟩
  rw [← hx1] at Z1 Q1 ⊢
  obtain ⟨pb, hpb⟩ : ∃ p, p = w1.heap.size := ⟨_, rfl⟩
  have hpw : w.heap.size ≤ pb := by rw [hpb]; exact q1.size
  rw [← hpb] at Z1 ⊢
  have HPW := Lib.hid hpw
  clear hx1 hpb q1 C0 hpw
  have HM := Lib.hid (InU.made x1)
  go_wp2_with (refine wpList_inU_ins (k := 0) HM.out rfl _ _ _ rfl (by omega) (by omega) (by omega) rfl rfl rfl ?_; intro w3 im g3)
  have HS : Hid (Stay w w3 pb x1.heap.size awk9.b0 0) := Lib.hid (by
    have hlt := Z1.out.lt
    have hq := Q1.out.size
    exact ⟨awk9.ok_0, (Z1.out.on ((Q.refl _).alloc _)).map HM.out g3 (by omega), im, g3.q (Q1.out.alloc _) hq, by omega, HPW.out, hq⟩)
  obtain ⟨pm, hpm⟩ : ∃ p, p = x1.heap.size := ⟨_, rfl⟩
  rw [← hpm] at HS ⊢
  clear im g3 HM Z1 Q1 HPW hpm hmm
  go_loopw [6] (fun I wr => ∃ (i : Nat) (b : Bkt), i ≤ 40 ∧ i ≤ l.length ∧ I = .int .i64 i ∧ Hid (Stay w wr pb pm b i)) (fun I _ => 40 - (intOf I).toNat)
  case atStart => exact ⟨0, awk9.b0, by omega, by omega, rfl, HS⟩
  case round =>
    obtain ⟨i, b, hi40, hil, rfl, HR⟩ := hrel
    clear HS
    by_cases hlt : ¬ i < l.length
    · have hilt : ¬ (i : Int) < (l.length : Int) := by omega
      go_wp2_with fail
      refine (AW.out _).mono ?_
      rintro e w9 ⟨rfl, q9⟩
      have nq := HR.out.2.2.2.1.trans q9
      go_wp2
      go_ret
      exact ⟨rfl, nq⟩
    have hlt : i < l.length := by omega
    by_cases h40 : ¬ i < 40
    · have hilt : (i : Int) < (l.length : Int) := by omega
      have hi4 : ¬ (i : Int) < 40 := by omega
      go_wp2_with fail
      refine (AW.out _).mono ?_
      rintro e w9 ⟨rfl, q9⟩
      have nq := HR.out.2.2.2.1.trans q9
      go_wp2
      go_ret
      exact ⟨rfl, nq⟩
    obtain ⟨a, c', hv, ha, hok, A2, c2, hP, hat⟩ := T0.out.pick i hlt
    injection hv with e1 e2 e3
    subst e1 e3
    obtain ⟨d0, d1, d2, d3, d4, d5, d6⟩ := hat _ HR.out.2.2.2.1
    obtain ⟨x, hx⟩ : ∃ x, x = l[i] := ⟨_, rfl⟩
    rw [← hx] at d0 d1 d2 d3 d4 d5 d6 hP hok
    have CUT := Lib.hid (cutA_any x (.slice A2 x.P.length c2) _ hok (hP.on HR.out.2.2.2.1))
    obtain ⟨X, hX⟩ : ∃ X, X = cutA x := ⟨_, rfl⟩
    obtain ⟨hx5, hx6, -, hx7⟩ := cutA_ok hok
    rw [← hX] at CUT hx5 hx6 hx7
    simp only [actV, acl] at CUT
    have HX := Lib.hid (And.intro hx5 (And.intro hx6 hx7))
    have hilt : (i : Int) < (l.length : Int) := by omega
    have hi4 : (i : Int) < 40 := by omega
    clear hx hX hx5 hx6 hx7 hok hP hat ha
    go_wp2_with fail
    refine (CUT.out).mono ?_
    rintro e w4 ⟨A3, c3, rfl, v4, q4⟩
    clear d0 d1 d2 d3 d4 d5 d6 CUT
    go_upto_region 9 with fail
    have HA : Hid (BoxA (w4.alloc (.cells #[.int .u8 (X.kind : Nat), .string X.key, .string X.data, .int .u64 (X.id : Nat), .int .i64 X.n, .int .i64 X.tm, .slice A3 X.P.length c3] 29)) w4.heap.size X) := Lib.hid (BoxA.new v4)
    have HR2 := Lib.hid (HR.out.on (q4.alloc (.cells #[.int .u8 (X.kind : Nat), .string X.key, .string X.data, .int .u64 (X.id : Nat), .int .i64 X.n, .int .i64 X.tm, .slice A3 X.P.length c3] 29)))
    clear HR q4 v4
    have HR := HR2
    clear HR2
    obtain ⟨x5, hx5⟩ : ∃ z, z = w4.alloc (.cells #[.int .u8 (X.kind : Nat), .string X.key, .string X.data, .int .u64 (X.id : Nat), .int .i64 X.n, .int .i64 X.tm, .slice A3 X.P.length c3] 29) := ⟨_, rfl⟩
    rw [← hx5] at HA HR ⊢
    obtain ⟨pa, hpa⟩ : ∃ p, p = w4.heap.size := ⟨_, rfl⟩
    rw [← hpa] at HA ⊢
    clear hx5 hpa
    obtain ⟨d, n, t, s, k, hF⟩ := do_ex9 b X
    have hFN := Lib.hid hF
    obtain ⟨B1, b1, B2, b2, hbb, hbv⟩ := HR.out.2.1
    obtain ⟨k0, k1, k2, k3, k4⟩ := bx_bkt hbb
    obtain ⟨A4, c4, hab, hav⟩ := HA.out
    obtain ⟨⟨m0, m1, m2, m3, m4, m5, m6⟩, -⟩ := bx_act hab
    have sm := sm_of HR.out.1
    have DO := Lib.hid (do_any b _ _ X _ x5 d n t s k hF HX.out.1 (by have := HX.out.2.1; omega) (by have := HX.out.2.2; omega) sm.1 sm.2.1 sm.2.2 hbv hav)
    obtain ⟨j, hj⟩ : ∃ j, j = n + t := ⟨_, rfl⟩
    rw [← hj] at DO
    simp only [bkt, actV, acl, didV, didC] at DO
    have HJ := Lib.hid hj
    clear hbb hbv hab hav sm hF hj
    go_wp2_with fail
    refine (DO.out).mono ?_
    rintro e w6 ⟨B3, b3, B4, b4, rfl, v6, q6⟩
    clear k0 k1 k2 k3 k4 m0 m1 m2 m3 m4 m5 m6 DO
    go_upto_region 10 with fail
    have q7 := q6.alloc (.cells #[.string d.name, .int .i64 d.st, .slice B3 d.L.length b3, .slice B4 d.U.length b4, .int .u64 (d.last : Nat), .int .u64 (j : Nat), .string s, .int .i64 (k : Nat)] 34)
    have HD : Hid (BoxD (w6.alloc (.cells #[.string d.name, .int .i64 d.st, .slice B3 d.L.length b3, .slice B4 d.U.length b4, .int .u64 (d.last : Nat), .int .u64 (j : Nat), .string s, .int .i64 (k : Nat)] 34)) w6.heap.size d j s k) := Lib.hid ⟨B3, b3, B4, b4, Bx.new _ _ _, v6.on ((Q.refl _).alloc _)⟩
    have HA2 := Lib.hid (HA.out.on q7)
    have HR2 := Lib.hid (HR.out.on q7)
    have NM : Hid (pm ≠ w6.heap.size) := Lib.hid (Nat.ne_of_lt (HR.out.2.2.1.on q6).lt)
    have NB : Hid (w6.heap.size ≠ pb) := Lib.hid (Nat.ne_of_gt (HR.out.2.1.on q6).lt)
    clear HR HA q6 q7 v6
    have HR := HR2
    have HA := HA2
    clear HR2 HA2
    obtain ⟨x7, hx7⟩ : ∃ z, z = w6.alloc (.cells #[.string d.name, .int .i64 d.st, .slice B3 d.L.length b3, .slice B4 d.U.length b4, .int .u64 (d.last : Nat), .int .u64 (j : Nat), .string s, .int .i64 (k : Nat)] 34) := ⟨_, rfl⟩
    rw [← hx7] at HA HR HD ⊢
    obtain ⟨pd, hpd⟩ : ∃ p, p = w6.heap.size := ⟨_, rfl⟩
    rw [← hpd] at HD NM NB ⊢
    clear hx7 hpd
    have OKD := Lib.hid (do_ok9 HR.out.1 hFN.out)
    have HL := Lib.hid (do_last hFN.out)
    obtain ⟨kx, hkx⟩ : ∃ kd : Int, kd = (X.kind : Int) := ⟨_, rfl⟩
    have TX := Lib.hid (show kx.tmod 9 = ((X.kind % 9 : Nat) : Int) by rw [hkx, Int.tmod_eq_emod_of_nonneg (by omega)]; omega)
    obtain ⟨B5, b5, B6, b6, hdb, hdv⟩ := HD.out
    obtain ⟨⟨r0, r1, r2, r3, r4, r5, r6, r7⟩, -⟩ := bx_did hdb
    obtain ⟨B7, b7, B8, b8, hbb, hbv⟩ := HR.out.2.1
    obtain ⟨k0, k1, k2, k3, k4⟩ := bx_bkt hbb
    obtain ⟨f0, f1, f2, f3, f4⟩ := bkt_frozen hbb
    obtain ⟨A4, c4, hab, -⟩ := HA.out
    obtain ⟨⟨m0, -, -, -, -, -, -⟩, -⟩ := bx_act hab
    rw [← hkx] at m0
    have smd := sm_of OKD.out
    have CH := Lib.hid (bktCheck_any d _ _ x7 true (.inl ⟨rfl, OKD.out⟩) smd.1 smd.2.1 smd.2.2 hdv)
    simp only [bkt, show chkE true = 0 from rfl] at CH
    have HKX := Lib.hid hkx
    clear smd hdb hdv hbb hbv hab hkx
    by_cases hk : k ≠ 0
    · have hk1 : ((k : Int) != 0) = true := by simpa using hk
      have hk2 : ((k : Int) == 0) = false := by simpa using hk
      go_wp2_with fail
      refine (CH.out).mono ?_
      rintro e w8 ⟨rfl, q8⟩
      clear CH r0 r1 r2 r3 r4 r5 r6 r7 k0 k1 k2 k3 k4 f0 f1 f2 f3 f4 m0
      have hkx := HKX.out
      obtain ⟨e1, -, -, -⟩ := fin_err hFN.out hk
      clear hFN hk
      subst e1
      have HR := Lib.hid (HR.out.on q8)
      have HD := Lib.hid (HD.out.on q8)
      have HA := Lib.hid (HA.out.on q8)
      obtain ⟨B5, b5, B6, b6, hdb, hdv⟩ := HD.out
      obtain ⟨⟨r0, r1, r2, r3, r4, r5, r6, r7⟩, -⟩ := bx_did hdb
      obtain ⟨B7, b7, B8, b8, hbb, hbv⟩ := HR.out.2.1
      obtain ⟨k0, k1, k2, k3, k4⟩ := bx_bkt hbb
      obtain ⟨f0, f1, f2, f3, f4⟩ := bkt_frozen hbb
      obtain ⟨A4, c4, hab, -⟩ := HA.out
      obtain ⟨⟨m0, -, -, -, -, -, -⟩, -⟩ := bx_act hab
      rw [← hkx] at m0
      have smd := sm_of OKD.out
      have SM := Lib.hid (rsameB_yes d _ _ _ _ w8 smd.2.1 smd.2.2 hdv hbv)
      simp only [bkt] at SM
      clear smd hdb hdv hbb hbv hab q8 hkx
      go_wp2_with fail
      refine (SM.out).mono ?_
      rintro e w9 ⟨rfl, q9⟩
      clear SM r0 r1 r2 r3 r4 r5 r6 r7 k0 k1 k2 k3 k4 f0 f1 f2 f3 f4 m0
      have hkx := HKX.out
      have HR := Lib.hid (HR.out.on q9)
      have HD := Lib.hid (HD.out.on q9)
      have HA := Lib.hid (HA.out.on q9)
      clear q9
      obtain ⟨B5, b5, B6, b6, hdb, hdv⟩ := HD.out
      obtain ⟨⟨r0, r1, r2, r3, r4, r5, r6, r7⟩, -⟩ := bx_did hdb
      obtain ⟨B7, b7, B8, b8, hbb, hbv⟩ := HR.out.2.1
      obtain ⟨k0, k1, k2, k3, k4⟩ := bx_bkt hbb
      obtain ⟨f0, f1, f2, f3, f4⟩ := bkt_frozen hbb
      obtain ⟨A4, c4, hab, -⟩ := HA.out
      obtain ⟨⟨m0, -, -, -, -, -, -⟩, -⟩ := bx_act hab
      rw [← hkx] at m0
      obtain ⟨nB, gB⟩ := HR.out.2.1.store hdv
      have cm := HR.out.2.1.calm
      have HN : Hid (Stay w _ pb pm d (i + 1)) := Lib.hid ⟨OKD.out, nB, (HR.out.2.2.1.more (by omega) HL.out).kp gB (Ne.symm HR.out.2.2.2.2.1), gB.q HR.out.2.2.2.1 HR.out.2.2.2.2.2.1, HR.out.2.2.2.2⟩
      clear hkx nB gB cm hdb hdv hbb hbv hab
      go_wp2
      go_roundw
      case rel => exact ⟨i + 1, d, by omega, by omega, by go_num, HN⟩
      case measure => simp [intOf]; omega
    obtain rfl : k = 0 := by omega
    clear hk
    go_wp2_with fail
    refine (CH.out).mono ?_
    rintro e w8 ⟨rfl, q8⟩
    clear CH r0 r1 r2 r3 r4 r5 r6 r7 k0 k1 k2 k3 k4 f0 f1 f2 f3 f4 m0
    have hkx := HKX.out
    have hl1 : ¬ (d.last : Int) < (b.last : Int) := by have := HL.out; omega
    have hnum := (do_num hFN.out).2
    clear hFN
    have HR := Lib.hid (HR.out.on q8)
    have HD := Lib.hid (HD.out.on q8)
    have HA := Lib.hid (HA.out.on q8)
    clear q8
    by_cases h6 : X.kind % 9 = 6
    · have p6 : (kx.tmod 9 != 6) = false := by rw [TX.out, h6]; rfl
      clear h6 hnum TX
      obtain ⟨B5, b5, B6, b6, hdb, hdv⟩ := HD.out
      obtain ⟨⟨r0, r1, r2, r3, r4, r5, r6, r7⟩, -⟩ := bx_did hdb
      obtain ⟨B7, b7, B8, b8, hbb, hbv⟩ := HR.out.2.1
      obtain ⟨k0, k1, k2, k3, k4⟩ := bx_bkt hbb
      obtain ⟨f0, f1, f2, f3, f4⟩ := bkt_frozen hbb
      obtain ⟨A4, c4, hab, -⟩ := HA.out
      obtain ⟨⟨m0, -, -, -, -, -, -⟩, -⟩ := bx_act hab
      rw [← hkx] at m0
      obtain ⟨nB, gB⟩ := HR.out.2.1.store hdv
      have cm := HR.out.2.1.calm
      have HN : Hid (Stay w _ pb pm d (i + 1)) := Lib.hid ⟨OKD.out, nB, (HR.out.2.2.1.more (by omega) HL.out).kp gB (Ne.symm HR.out.2.2.2.2.1), gB.q HR.out.2.2.2.1 HR.out.2.2.2.2.2.1, HR.out.2.2.2.2⟩
      clear hkx nB gB cm hdb hdv hbb hbv hab
      go_wp2
      go_roundw
      case rel => exact ⟨i + 1, d, by omega, by omega, by go_num, HN⟩
      case measure => simp [intOf]; omega
    have p6 : (kx.tmod 9 != 6) = true := by
      rw [TX.out]; simp; omega
    obtain ⟨ht, hn⟩ := hnum h6
    have hj := HJ.out
    clear h6 hnum TX HJ
    rcases hn with hn | ⟨hn, hlast⟩
    · obtain rfl : j = 0 := by omega
      clear hn ht hj
      obtain ⟨B5, b5, B6, b6, hdb, hdv⟩ := HD.out
      obtain ⟨⟨r0, r1, r2, r3, r4, r5, r6, r7⟩, -⟩ := bx_did hdb
      obtain ⟨B7, b7, B8, b8, hbb, hbv⟩ := HR.out.2.1
      obtain ⟨k0, k1, k2, k3, k4⟩ := bx_bkt hbb
      obtain ⟨f0, f1, f2, f3, f4⟩ := bkt_frozen hbb
      obtain ⟨A4, c4, hab, -⟩ := HA.out
      obtain ⟨⟨m0, -, -, -, -, -, -⟩, -⟩ := bx_act hab
      rw [← hkx] at m0
      obtain ⟨nB, gB⟩ := HR.out.2.1.store hdv
      have cm := HR.out.2.1.calm
      have HN : Hid (Stay w _ pb pm d (i + 1)) := Lib.hid ⟨OKD.out, nB, (HR.out.2.2.1.more (by omega) HL.out).kp gB (Ne.symm HR.out.2.2.2.2.1), gB.q HR.out.2.2.2.1 HR.out.2.2.2.2.2.1, HR.out.2.2.2.2⟩
      clear hkx nB gB cm hdb hdv hbb hbv hab
      go_wp2
      go_roundw
      case rel => exact ⟨i + 1, d, by omega, by omega, by go_num, HN⟩
      case measure => simp [intOf]; omega
    obtain rfl : j = d.last := by omega
    have hj0 : ((d.last : Int) != 0) = true := by simp; omega
    have htop := last_top OKD.out
    have hrun := HR.out.2.2.1.get hlast htop
    have HM := Lib.hid (HR.out.2.2.1.more (Nat.le_refl _) HL.out)
    clear hn ht hj hlast
    obtain ⟨B5, b5, B6, b6, hdb, hdv⟩ := HD.out
    obtain ⟨⟨r0, r1, r2, r3, r4, r5, r6, r7⟩, -⟩ := bx_did hdb
    obtain ⟨B7, b7, B8, b8, hbb, hbv⟩ := HR.out.2.1
    obtain ⟨k0, k1, k2, k3, k4⟩ := bx_bkt hbb
    obtain ⟨f0, f1, f2, f3, f4⟩ := bkt_frozen hbb
    obtain ⟨A4, c4, hab, -⟩ := HA.out
    obtain ⟨⟨m0, -, -, -, -, -, -⟩, -⟩ := bx_act hab
    rw [← hkx] at m0
    clear hdb hdv hbb hbv hab hkx
    have HI : Hid (i + 1 ≤ 1000000) := Lib.hid (by omega)
    have HT := Lib.hid htop
    clear htop
    go_upto_region 17 with (refine wpList_inU_put (k := d.last) HM.out rfl _ _ _ rfl HI.out (Nat.le_refl _) HT.out rfl rfl rfl ?_; intro w9 im g9)
    clear hrun r0 r1 r2 r3 r4 r5 r6 r7 k0 k1 k2 k3 k4 f0 f1 f2 f3 f4 m0
    have HD := Lib.hid (HD.out.map HM.out g9 (Ne.symm NM.out))
    have HR9 : Hid (BoxB w9 pb b ∧ InU pm (i + 1 + 1) d.last w9 ∧ Q w w9 ∧ pb ≠ pm ∧ w.heap.size ≤ pb ∧ w.heap.size ≤ pm) := Lib.hid ⟨HR.out.2.1.map HM.out g9 HR.out.2.2.2.2.1, im, g9.q HR.out.2.2.2.1 HR.out.2.2.2.2.2.2, HR.out.2.2.2.2⟩
    obtain ⟨B5, b5, B6, b6, hdb, hdv⟩ := HD.out
    obtain ⟨⟨r0, r1, r2, r3, r4, r5, r6, r7⟩, -⟩ := bx_did hdb
    obtain ⟨B7, b7, B8, b8, hbb, hbv⟩ := HR9.out.1
    obtain ⟨k0, k1, k2, k3, k4⟩ := bx_bkt hbb
    obtain ⟨f0, f1, f2, f3, f4⟩ := bkt_frozen hbb
    obtain ⟨nB, gB⟩ := HR9.out.1.store hdv
    have HN : Hid (Stay w _ pb pm d (i + 1)) := Lib.hid ⟨OKD.out, nB, HR9.out.2.1.kp gB (Ne.symm HR9.out.2.2.2.1), gB.q HR9.out.2.2.1 HR9.out.2.2.2.2.1, HR9.out.2.2.2⟩
    clear nB gB hdb hdv hbb hbv im g9 HR HM
    go_wp2
    go_roundw
    case rel => exact ⟨i + 1, d, by omega, by omega, by go_num, HN⟩
    case measure => simp [intOf]; omega

set_option maxRecDepth 100000 in
theorem lifted (os : Os) (started : os.Started) (H : Type) (enc : TypeId × Value → H) :
    ReturnsInHanded {} Tryz.checked os 4 .any (Rows.bucketStaysSpec.pre6 enc Tryz.prog Tryz.f4 Rows.bucketStaysRow.domain false) (Rows.bucketStaysSpec.post enc Tryz.prog Tryz.f4 false true false false) := by
  refine returnsInHanded_of_change (C := Tryz.checked) own started (by kernel_rfl) Tryz.func4
    (ChangeSpec.witness6 (enc := enc) (C := Tryz.checked) false ⟨#[], #[.slice none 0 0], []⟩ 8 (by kernel_rfl) (by kernel_rfl) (by kernel_rfl) (by kernel_rfl)) ?_
  intro W base args ds gs before hval0 hW hcnd _
  have hval : ∀ (j : Nat) t v, Tryz.f4.params[j]? = some t → args[j]? = some v → Value.okWide Tryz.prog W .any base t v := hval0
  have hW' := hW
  obtain ⟨p, q, hA0, hV, rfl, hfz, hnd⟩ := hW
  have hA : DataW.TrodAll enc Tryz.prog W 0 (fun _ => true) true Tryz.f4.params.toList args.toList ds p := hA0
  rw [Tryz.params4] at hA hval
  obtain ⟨v0, vs0, d0, ds0, p0, q0, hargs, rfl, rfl, h0, r0⟩ := trodAll_cons hA
  obtain ⟨rfl, rfl, rfl⟩ := trodAll_nil r0
  obtain rfl : args = #[v0] := by cases args; simp_all
  obtain ⟨rfl, rfl⟩ := trodVars_none hV
  clear hA0 hval0
  simp only [List.append_nil] at hW'
  have hlt : ∀ x ∈ p0, x.block < W.heap.size := fun x hx => by simpa using hW'.lt x (by simpa using hx)
  obtain ⟨l0, t0, z0⟩ := open_acts (hval 0 41 v0 rfl rfl) h0
  refine (walk l0 v0 W t0 z0).mono fun e W' ⟨he, bel⟩ => ?_
  subst he
  refine ⟨_, rfl, _, _, _, [], _, [], hW', trodAll_mk1 (shut_bool Tryz.underlying4 _), (trodAll_cons_mk (Below.trod laid (by kernel_rfl) (of_decide_eq_true (by kernel_rfl)) h0 bel (fun x hx => hlt x (by simp [hx]))) trodAll_mk0), rfl, Below.frame bel _, fun h => by cases h⟩

theorem over : Rows.bucketStaysRow.holds Tryz.pinned (OpenSpec.ofChange Rows.bucketStaysSpec) :=
  OpenClaim.holds_of_wide 4 Tryz.f4 rfl rfl rfl rfl rfl rfl rfl ⟨rfl, rfl, rfl, rfl, rfl⟩ rfl rfl rfl rfl rfl (by kernel_rfl) Tryz.func4 (by kernel_rfl)
    (of_decide_eq_true (by kernel_rfl)) (by unfold Func.isWrapper; first | (rw [if_pos (by decide +kernel)]; kernel_rfl) | (rw [if_neg (by decide +kernel)]; exact ⟨rfl, rfl⟩))
    (fun os started H enc _ => lifted os started H enc)

theorem proved : Rows.BucketStaysSaid := over
#print axioms proved
end Go.Proofs.YtjjlbbfhmpbneaaGreat.bucketStays
