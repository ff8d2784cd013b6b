/-
  Proved: whatever acts BucketOff is called with, it returns true and leaves what it was given as it was. No condition.
-/
import Derived.Test.YtjjlbbfhmpbneaaGreatKza
import Derived.Test.YtjjlbbfhmpbneaaGreatKw
namespace Go.Proofs.YtjjlbbfhmpbneaaGreat.bucketOff
set_option maxRecDepth 100000
open Go.ChangeShapes Go.WideShapes Go.ChangeAt Go.RowKit Go.Shelf
open Go.ChangeMaps (open_string shut_string)
set_option linter.unusedVariables false
set_option linter.unusedSimpArgs false

/-- What the loop keeps. -/
def Off (w wr : World) (pb pm : Nat) (b : Bkt) (i : Nat) : Prop := OffB b ∧ BoxB wr pb b ∧ InS pm i b wr ∧ Q w wr ∧ pb ≠ pm ∧ w.heap.size ≤ pb ∧ w.heap.size ≤ pm
theorem Off.on {w wr w' : World} {pb pm i : Nat} {b : Bkt} (h : Off w wr pb pm b i) (q : Q wr w') : Off w w' pb pm b i := by
  obtain ⟨r1, r2, r3, r4, r5⟩ := h
  exact ⟨r1, r2.on q, r3.on q, r4.trans q, r5⟩
theorem Off.more {w wr : World} {pb pm i : Nat} {b : Bkt} (h : Off w wr pb pm b i) : Off w wr pb pm b (i + 1) := by
  obtain ⟨r1, r2, r3, r5⟩ := h
  exact ⟨r1, r2, r3.more (Nat.le_succ _), r5⟩
theorem Off.box {w wr w' : World} {pb pm i p : Nat} {b : Bkt} (h : Off w wr pb pm b i) (c : Calm wr p) (g : Kp p wr w') (h1 : pb ≠ p) (h2 : pm ≠ p) (h3 : w.heap.size ≤ p) : Off w w' pb pm b i := by
  obtain ⟨r1, r2, r3, r4, r5⟩ := h
  exact ⟨r1, r2.kp c g h1, r3.kp g h2, g.q r4 h3, r5⟩
theorem key_out {b : Bkt} (h : OffB b) {key : ByteArray} (hk : hasO 1 60 ko key = false) : getE b.L key = [] :=
  getE_out fun e he hh => by
    have := ((okI_iff.1 h.1.2.2.2.1).2.2 e he).1
    rw [hh, hk] at this
    cases this
/-- What Get answers of a bucket that has been off ever since. -/
theorem off_none {b : Bkt} (lv uv : Value) (w : World) (key : ByteArray) (h : OffB b) (hk : key.size ≤ 1000) (hv : BktV w b lv uv) (hg : getE b.L key = []) :
    ∃ f : Int, (f == 0) = false ∧ Calls Tryz.prog 27 #[bkt b lv uv, .string key] w fun e w' => e = .returned (.tuple #[.agg #[.int .u64 0, .string ⟨#[]⟩, .bool false, .int .i64 0], .int .i64 f]) ∧ Q w w' := by
  have sm := sm_of h.1
  cases hh : hasO 1 60 ko key with
  | false => exact ⟨1, by decide, bGet_no b lv uv w key h.1 hh sm.1 sm.2.1 sm.2.2 hk hv⟩
  | true =>
    have g := bGet_yes b lv uv w key h.1 hh sm.1 sm.2.1 sm.2.2 hk hv
    rw [hg] at g
    exact ⟨4, by decide, g⟩
theorem off_some {b : Bkt} (lv uv : Value) (w : World) (key data : ByteArray) (tm : Int) (h : OffB b) (hk : key.size ≤ 1000) (hv : BktV w b lv uv) (hg : getE b.L key = [offV data tm]) :
    Calls Tryz.prog 27 #[bkt b lv uv, .string key] w fun e w' => e = .returned (.tuple #[.agg #[.int .u64 0, .string data, .bool false, .int .i64 tm], .int .i64 0]) ∧ Q w w' := by
  have sm := sm_of h.1
  cases hh : hasO 1 60 ko key with
  | false => rw [key_out h hh] at hg; cases hg
  | true =>
    have g := bGet_yes b lv uv w key h.1 hh sm.1 sm.2.1 sm.2.2 hk hv
    rw [hg] at g
    exact g
set_option maxHeartbeats 32000000 in
set_option maxRecDepth 100000 in
theorem walk (l : List Actn) (v : Value) (w : World) (t0 : Acts w w.heap.size v l) (z0 : l.length ≤ maxLen) :
    Calls Tryz.prog 7 #[v] w fun e w' => e = .returned (.bool true) ∧ Q w w' := by
  obtain ⟨A, c, rfl⟩ := t0.form
  have T0 := Lib.hid t0
  have C0 := Lib.hid fun x => bnew_any ⟨#[98, 111, 120]⟩ x (by decide) (by decide)
  simp only [bkt, List.length_nil] at C0
  have AW := Lib.hid fun x => awakeB_any x
  have hmm := @run_makeMap Tryz.prog
  clear t0
  go_enter Tryz.func7, Tryz.ntmps7
  go_wp2_with fail
  refine (C0.out _).mono ?_
  rintro e w1 ⟨rfl, q1⟩
  go_upto_region 4 with fail
  have Z1 : Hid (BoxB (w1.alloc (.cells #[.string ⟨#[98, 111, 120]⟩, .int .i64 0, .slice none 0 0, .slice none 0 0, .int .u64 0] 26)) w1.heap.size awk9.b0) := Lib.hid (BoxB.new (d := awk9.b0) (A := none) (c := 0) (A' := none) (c' := 0) ⟨Ents.nil _ _, Upls.nil _ _⟩)
  have Q1 := Lib.hid (q1.alloc (.cells #[.string ⟨#[98, 111, 120]⟩, .int .i64 0, .slice none 0 0, .slice none 0 0, .int .u64 0] 26))
  obtain ⟨x1, hx1⟩ : ∃ z, z = w1.alloc (.cells #[.string ⟨#[98, 111, 120]⟩, .int .i64 0, .slice none 0 0, .slice none 0 0, .int .u64 0] 26) := ⟨_, rfl⟩
  rw [← hx1] at Z1 Q1 ⊢
  obtain ⟨pb, hpb⟩ : ∃ p, p = w1.heap.size := ⟨_, rfl⟩
  have hpw : w.heap.size ≤ pb := by rw [hpb]; exact q1.size
  rw [← hpb] at Z1 ⊢
  have HPW := Lib.hid hpw
  clear hx1 hpb q1 C0 hpw
  go_upto_region 5 with fail
  have HS : Hid (Off w (x1.alloc (.map #[] 0)) pb x1.heap.size awk9.b0 0) := Lib.hid (by
    have hlt := Z1.out.lt
    have hq := Q1.out.size
    exact ⟨off_new, Z1.out.on ((Q.refl _).alloc _), InS.made x1, Q1.out.alloc _, by omega, HPW.out, hq⟩)
  obtain ⟨x2, hx2⟩ : ∃ z, z = x1.alloc (.map #[] 0) := ⟨_, rfl⟩
  rw [← hx2] at HS ⊢
  obtain ⟨pm, hpm⟩ : ∃ p, p = x1.heap.size := ⟨_, rfl⟩
  rw [← hpm] at HS ⊢
  clear Z1 Q1 HPW hpm hmm hx2
  go_wp2_with fail
  go_loopw [6] (fun I wr => ∃ (i : Nat) (b : Bkt), i ≤ 30 ∧ i ≤ l.length ∧ I = .int .i64 i ∧ Hid (Off w wr pb pm b i)) (fun I _ => 30 - (intOf I).toNat)
  case atStart => exact ⟨0, awk9.b0, by omega, by omega, rfl, HS⟩
  case round =>
    obtain ⟨i, b, hi40, hil, rfl, HR⟩ := hrel
    clear HS
    by_cases hlt : ¬ i < l.length
    · have hilt : ¬ (i : Int) < (l.length : Int) := by omega
      go_wp2_with fail
      refine (AW.out _).mono ?_
      rintro e w9 ⟨rfl, q9⟩
      have nq := HR.out.2.2.2.1.trans q9
      go_wp2
      go_ret
      exact ⟨rfl, nq⟩
    have hlt : i < l.length := by omega
    by_cases h40 : ¬ i < 30
    · have hilt : (i : Int) < (l.length : Int) := by omega
      have hi4 : ¬ (i : Int) < 30 := by omega
      go_wp2_with fail
      refine (AW.out _).mono ?_
      rintro e w9 ⟨rfl, q9⟩
      have nq := HR.out.2.2.2.1.trans q9
      go_wp2
      go_ret
      exact ⟨rfl, nq⟩
    obtain ⟨a, c', hv, ha, hok, A2, c2, hP, hat⟩ := T0.out.pick i hlt
    injection hv with e1 e2 e3
    subst e1 e3
    obtain ⟨d0, d1, d2, d3, d4, d5, d6⟩ := hat _ HR.out.2.2.2.1
    obtain ⟨x, hx⟩ : ∃ x, x = l[i] := ⟨_, rfl⟩
    rw [← hx] at d0 d1 d2 d3 d4 d5 d6 hP hok
    have CUT := Lib.hid (cutA_any x (.slice A2 x.P.length c2) _ hok (hP.on HR.out.2.2.2.1))
    obtain ⟨X, hX⟩ : ∃ X, X = cutA x := ⟨_, rfl⟩
    obtain ⟨hx5, hx6, -, hx7⟩ := cutA_ok hok
    rw [← hX] at CUT hx5 hx6 hx7
    simp only [actV, acl] at CUT
    have HX := Lib.hid (And.intro hx5 (And.intro hx6 hx7))
    have hilt : (i : Int) < (l.length : Int) := by omega
    have hi4 : (i : Int) < 30 := by omega
    clear hx hX hx5 hx6 hx7 hok hP hat ha
    go_wp2_with fail
    refine (CUT.out).mono ?_
    rintro e w4 ⟨A3, c3, rfl, v4, q4⟩
    clear d0 d1 d2 d3 d4 d5 d6 CUT
    go_upto_region 9 with fail
    have HA : Hid (BoxA (w4.alloc (.cells #[.int .u8 (X.kind : Nat), .string X.key, .string X.data, .int .u64 (X.id : Nat), .int .i64 X.n, .int .i64 X.tm, .slice A3 X.P.length c3] 29)) w4.heap.size X) := Lib.hid (BoxA.new v4)
    have HR2 := Lib.hid (HR.out.on (q4.alloc (.cells #[.int .u8 (X.kind : Nat), .string X.key, .string X.data, .int .u64 (X.id : Nat), .int .i64 X.n, .int .i64 X.tm, .slice A3 X.P.length c3] 29)))
    have NA : Hid (pb ≠ w4.heap.size ∧ pm ≠ w4.heap.size ∧ w.heap.size ≤ w4.heap.size) := Lib.hid ⟨Nat.ne_of_lt (HR.out.2.1.on q4).lt, Nat.ne_of_lt (HR.out.2.2.1.on q4).lt, (HR.out.2.2.2.1.trans q4).size⟩
    clear HR q4 v4
    have HR := HR2
    clear HR2
    obtain ⟨x5, hx5⟩ : ∃ z, z = w4.alloc (.cells #[.int .u8 (X.kind : Nat), .string X.key, .string X.data, .int .u64 (X.id : Nat), .int .i64 X.n, .int .i64 X.tm, .slice A3 X.P.length c3] 29) := ⟨_, rfl⟩
    rw [← hx5] at HA HR ⊢
    obtain ⟨pa, hpa⟩ : ∃ p, p = w4.heap.size := ⟨_, rfl⟩
    rw [← hpa] at HA NA ⊢
    clear hx5 hpa
    obtain ⟨kx, hkx⟩ : ∃ kd : Int, kd = (X.kind : Int) := ⟨_, rfl⟩
    have TX := Lib.hid (show kx.tmod 9 = ((X.kind % 9 : Nat) : Int) by rw [hkx, Int.tmod_eq_emod_of_nonneg (by omega)]; omega)
    have HKX := Lib.hid hkx
    obtain ⟨A4, c4, hab, hav⟩ := HA.out
    obtain ⟨⟨m0, m1, m2, m3, m4, m5, m6⟩, g0, g1, g2, g3, g4, g5, g6⟩ := bx_act hab
    rw [← hkx] at m0
    clear hkx
    by_cases h2 : (2 : Int) < kx.tmod 9
    · clear hab hav
      have HN := Lib.hid HR.out.more
      go_wp2
      go_roundw
      case rel => exact ⟨i + 1, b, by omega, by omega, by go_num, HN⟩
      case measure => simp [intOf]; omega
    have hk2 : X.kind % 9 ≤ 2 := by have := TX.out; omega
    have HK2 := Lib.hid hk2
    obtain ⟨Y, hY⟩ : ∃ Y, Y = ({ X with tm := (i : Int) } : Actn) := ⟨_, rfl⟩
    have hb5 : Bx (x5.setCell ⟨pa, 5, none⟩ (.int .i64 (i : Int))) pa 29 (acl { X with tm := (i : Int) } (.slice A4 X.P.length c4)) := hab.set 5 _
    have gA : Kp pa x5 (x5.setCell ⟨pa, 5, none⟩ (.int .i64 (i : Int))) := (Kp.of (Q.refl x5)).set 5 _
    have cA := HA.out.calm
    have HA2 : Hid (BoxA (x5.setCell ⟨pa, 5, none⟩ (.int .i64 (i : Int))) pa Y) := Lib.hid (by rw [hY]; exact ⟨A4, c4, hb5, hav.kp cA gA⟩)
    have HR2 := Lib.hid (HR.out.box cA gA NA.out.1 NA.out.2.1 NA.out.2.2)
    have HYX : Hid (Y.kind = X.kind ∧ Y.key = X.key ∧ Y.data = X.data ∧ okA9 Y ∧ Y.P.length ≤ 40) := Lib.hid (by
      rw [hY]
      obtain ⟨⟨a1, a2, a3, a4, a5, a6, a7⟩, -, b3⟩ := HX.out
      exact ⟨rfl, rfl, rfl, ⟨a1, a2, a3, a4, a5, ⟨by show -9223372036854775808 ≤ (i : Int); omega, by show (i : Int) ≤ 9223372036854775807; omega⟩, a7⟩, b3⟩)
    go_upto_region 12 with fail
    clear hb5 gA cA HR HA hab hav m0 m1 m2 m3 m4 m5 m6 g0 g1 g2 g3 g4 g5 g6 hk2 hY
    have HR := HR2
    have HA := HA2
    clear HR2 HA2
    obtain ⟨x6, hx6⟩ : ∃ z, z = x5.setCell ⟨pa, 5, none⟩ (.int .i64 (i : Int)) := ⟨_, rfl⟩
    rw [← hx6] at HR HA ⊢
    clear hx6
    obtain ⟨d, n, t, s, k, hF⟩ := do_ex9 b Y
    have hFN := Lib.hid hF
    obtain ⟨B1, b1, B2, b2, hbb, hbv⟩ := HR.out.2.1
    obtain ⟨k0, k1, k2, k3, k4⟩ := bx_bkt hbb
    obtain ⟨A4, c4, hab, hav⟩ := HA.out
    obtain ⟨⟨m0, m1, m2, m3, m4, m5, m6⟩, -⟩ := bx_act hab
    have sm := sm_of HR.out.1.1
    have DO := Lib.hid (do_any b _ _ Y _ x6 d n t s k hF HYX.out.2.2.2.1 (by rw [HYX.out.2.1]; have := HX.out.2.1; omega) (by have := HYX.out.2.2.2.2; omega) sm.1 sm.2.1 sm.2.2 hbv hav)
    obtain ⟨j, hj⟩ : ∃ j, j = n + t := ⟨_, rfl⟩
    rw [← hj] at DO
    simp only [bkt, actV, acl, didV, didC] at DO
    have HJ := Lib.hid hj
    clear hbb hbv hab hav sm hF hj
    go_wp2_with fail
    refine (DO.out).mono ?_
    rintro e w6 ⟨B3, b3, B4, b4, rfl, v6, q6⟩
    clear k0 k1 k2 k3 k4 m0 m1 m2 m3 m4 m5 m6 DO
    go_upto_region 13 with fail
    have q7 := q6.alloc (.cells #[.string d.name, .int .i64 d.st, .slice B3 d.L.length b3, .slice B4 d.U.length b4, .int .u64 (d.last : Nat), .int .u64 (j : Nat), .string s, .int .i64 (k : Nat)] 34)
    have HD : Hid (BoxD (w6.alloc (.cells #[.string d.name, .int .i64 d.st, .slice B3 d.L.length b3, .slice B4 d.U.length b4, .int .u64 (d.last : Nat), .int .u64 (j : Nat), .string s, .int .i64 (k : Nat)] 34)) w6.heap.size d j s k) := Lib.hid ⟨B3, b3, B4, b4, Bx.new _ _ _, v6.on ((Q.refl _).alloc _)⟩
    have HA2 := Lib.hid (HA.out.on q7)
    have HR2 := Lib.hid (HR.out.on q7)
    have NM : Hid (pm ≠ w6.heap.size) := Lib.hid (Nat.ne_of_lt (HR.out.2.2.1.on q6).lt)
    have NB : Hid (w6.heap.size ≠ pb) := Lib.hid (Nat.ne_of_gt (HR.out.2.1.on q6).lt)
    have NP : Hid (pa ≠ pm) := Lib.hid (Ne.symm NA.out.2.1)
    clear HR HA q6 q7 v6
    have HR := HR2
    have HA := HA2
    clear HR2 HA2
    obtain ⟨x7, hx7⟩ : ∃ z, z = w6.alloc (.cells #[.string d.name, .int .i64 d.st, .slice B3 d.L.length b3, .slice B4 d.U.length b4, .int .u64 (d.last : Nat), .int .u64 (j : Nat), .string s, .int .i64 (k : Nat)] 34) := ⟨_, rfl⟩
    rw [← hx7] at HA HR HD ⊢
    obtain ⟨pd, hpd⟩ : ∃ p, p = w6.heap.size := ⟨_, rfl⟩
    rw [← hpd] at HD NM NB ⊢
    clear hx7 hpd
    have KS : Hid (Y.key.size ≤ 1000 ∧ Y.data.size ≤ maxLen) := Lib.hid ⟨by rw [HYX.out.2.1]; have := HX.out.2.1; omega, HYX.out.2.2.2.1.2.2.1⟩
    have KK : Hid (Y.kind % 9 ≤ 2 ∧ kx.tmod 9 = ((Y.kind % 9 : Nat) : Int)) := Lib.hid (by rw [HYX.out.1]; exact ⟨HK2.out, TX.out⟩)
    have NPB : Hid (pa ≠ pb) := Lib.hid (Ne.symm NA.out.1)
    clear TX HK2 HYX HX HKX NA
    by_cases hk : k ≠ 0
    · obtain ⟨e1, e2, e3, -⟩ := fin_err hFN.out hk
      have hj := HJ.out
      have hk2 : ((k : Int) == 0) = false := by simpa using hk
      have hj0 : j = 0 := by omega
      clear hFN hk hj e2 e3 HJ
      subst e1
      subst hj0
      have OD := Lib.hid HR.out.1
      have hl0 : ((d.last : Int) != 0) = false := by rw [OD.out.2.2.1]; rfl
      have HR2 := Lib.hid (And.intro HR.out.2.1 (And.intro (HR.out.2.2.1.more (Nat.le_succ _)) (And.intro HR.out.2.2.2.1 HR.out.2.2.2.2)))
      clear HR
      have HR := HR2
      clear HR2
      rcases off_get OD.out Y.key with hg | ⟨dt, tq, hg⟩
      · have HG := Lib.hid hg
        clear hg
        obtain ⟨B5, b5, B6, b6, hdb, hdv⟩ := HD.out
        obtain ⟨⟨r0, r1, r2, r3, r4, r5, r6, r7⟩, -⟩ := bx_did hdb
        obtain ⟨B7, b7, B8, b8, hbb, hbv⟩ := HR.out.1
        obtain ⟨k0, k1, k2, k3, k4⟩ := bx_bkt hbb
        obtain ⟨f0, f1, f2, f3, f4⟩ := bkt_frozen hbb
        obtain ⟨A4, c4, hab, -⟩ := HA.out
        obtain ⟨⟨m0, m1, m2, m3, m4, m5, m6⟩, -⟩ := bx_act hab
        obtain ⟨nB, gB⟩ := HR.out.1.store hdv
        have cm := HR.out.1.calm
        have HT : Hid (BoxB _ pb d ∧ InS pm (i + 1) d _ ∧ Q w _) := Lib.hid ⟨nB, HR.out.2.1.kp gB (Ne.symm HR.out.2.2.2.1), gB.q HR.out.2.2.1 HR.out.2.2.2.2.1⟩
        have HA2 := Lib.hid (HA.out.kp cm gB NPB.out)
        have HC := Lib.hid HR.out.2.2.2
        clear nB gB cm hdb hdv hbb hbv hab HR HA HD
        go_upto_region 20 with fail
        obtain ⟨y1, hy1⟩ : ∃ z, z = (((((x7.setCell ⟨pb, 0, none⟩ (.string d.name)).setCell ⟨pb, 1, none⟩ (.int .i64 d.st)).setCell ⟨pb, 2, none⟩ (.slice B5 d.L.length b5)).setCell ⟨pb, 3, none⟩ (.slice B6 d.U.length b6)).setCell ⟨pb, 4, none⟩ (.int .u64 (d.last : Nat))) := ⟨_, rfl⟩
        rw [← hy1] at HT HA2 ⊢
        clear hy1 r0 r1 r2 r3 r4 r5 r6 r7 k0 k1 k2 k3 k4 f0 f1 f2 f3 f4 m0 m1 m2 m3 m4 m5 m6
        obtain ⟨B9, b9, B10, b10, hbb, hbv⟩ := HT.out.1
        obtain ⟨k0, k1, k2, k3, k4⟩ := bx_bkt hbb
        obtain ⟨A4, c4, hab, -⟩ := HA2.out
        obtain ⟨⟨-, m1, -, -, -, -, -⟩, -⟩ := bx_act hab
        obtain ⟨f, hf, hget⟩ := off_none _ _ y1 Y.key OD.out KS.out.1 hbv HG.out
        have GC := Lib.hid hget
        simp only [bkt] at GC
        clear hget hbb hbv hab
        go_wp2_with fail
        refine (GC.out).mono ?_
        rintro e y2 ⟨rfl, q2⟩
        clear GC k0 k1 k2 k3 k4 m1
        go_upto_region 21 with fail
        have q3 := q2.alloc (.cells #[.int .u64 0, .string ⟨#[]⟩, .bool false, .int .i64 0] 49)
        have HT2 := Lib.hid (And.intro (HT.out.1.on q3) (And.intro (HT.out.2.1.on q3) (HT.out.2.2.trans q3)))
        have HA3 := Lib.hid (HA2.out.on q3)
        have VB := Lib.hid (Bx.new y2 49 #[.int .u64 0, .string ⟨#[]⟩, .bool false, .int .i64 0])
        clear HT HA2 q2 q3
        obtain ⟨y3, hy3⟩ : ∃ z, z = y2.alloc (.cells #[.int .u64 0, .string ⟨#[]⟩, .bool false, .int .i64 0] 49) := ⟨_, rfl⟩
        rw [← hy3] at HT2 HA3 VB ⊢
        obtain ⟨pv, hpv⟩ : ∃ z, z = y2.heap.size := ⟨_, rfl⟩
        rw [← hpv] at VB ⊢
        clear hy3 hpv
        obtain ⟨⟨a0, a1, a2, a3⟩, -⟩ := bx_ver VB.out
        obtain ⟨B9, b9, B10, b10, hbb, -⟩ := HT2.out.1
        obtain ⟨k0, k1, k2, k3, k4⟩ := bx_bkt hbb
        obtain ⟨A4, c4, hab, -⟩ := HA3.out
        obtain ⟨⟨-, m1, -, -, -, -, -⟩, -⟩ := bx_act hab
        obtain ⟨s9, hrun⟩ := HT2.out.2.1.no HG.out (by have := KS.out.1; unfold maxLen; omega)
        have hlen := HT2.out.2.1.len 3
        have HN : Hid (Off w y3 pb pm d (i + 1)) := Lib.hid ⟨OD.out, HT2.out.1, HT2.out.2.1, HT2.out.2.2, HC.out⟩
        clear hbb hab HT2 HA3 VB
        go_wp2
        go_roundw
        case rel => exact ⟨i + 1, d, by omega, by omega, by go_num, HN⟩
        case measure => simp [intOf]; omega
      · have HG := Lib.hid hg
        clear hg
        obtain ⟨B5, b5, B6, b6, hdb, hdv⟩ := HD.out
        obtain ⟨⟨r0, r1, r2, r3, r4, r5, r6, r7⟩, -⟩ := bx_did hdb
        obtain ⟨B7, b7, B8, b8, hbb, hbv⟩ := HR.out.1
        obtain ⟨k0, k1, k2, k3, k4⟩ := bx_bkt hbb
        obtain ⟨f0, f1, f2, f3, f4⟩ := bkt_frozen hbb
        obtain ⟨A4, c4, hab, -⟩ := HA.out
        obtain ⟨⟨m0, m1, m2, m3, m4, m5, m6⟩, -⟩ := bx_act hab
        obtain ⟨nB, gB⟩ := HR.out.1.store hdv
        have cm := HR.out.1.calm
        have HT : Hid (BoxB _ pb d ∧ InS pm (i + 1) d _ ∧ Q w _) := Lib.hid ⟨nB, HR.out.2.1.kp gB (Ne.symm HR.out.2.2.2.1), gB.q HR.out.2.2.1 HR.out.2.2.2.2.1⟩
        have HA2 := Lib.hid (HA.out.kp cm gB NPB.out)
        have HC := Lib.hid HR.out.2.2.2
        clear nB gB cm hdb hdv hbb hbv hab HR HA HD
        go_upto_region 20 with fail
        obtain ⟨y1, hy1⟩ : ∃ z, z = (((((x7.setCell ⟨pb, 0, none⟩ (.string d.name)).setCell ⟨pb, 1, none⟩ (.int .i64 d.st)).setCell ⟨pb, 2, none⟩ (.slice B5 d.L.length b5)).setCell ⟨pb, 3, none⟩ (.slice B6 d.U.length b6)).setCell ⟨pb, 4, none⟩ (.int .u64 (d.last : Nat))) := ⟨_, rfl⟩
        rw [← hy1] at HT HA2 ⊢
        clear hy1 r0 r1 r2 r3 r4 r5 r6 r7 k0 k1 k2 k3 k4 f0 f1 f2 f3 f4 m0 m1 m2 m3 m4 m5 m6
        obtain ⟨B9, b9, B10, b10, hbb, hbv⟩ := HT.out.1
        obtain ⟨k0, k1, k2, k3, k4⟩ := bx_bkt hbb
        obtain ⟨A4, c4, hab, -⟩ := HA2.out
        obtain ⟨⟨-, m1, -, -, -, -, -⟩, -⟩ := bx_act hab
        have hget := off_some _ _ y1 Y.key dt tq OD.out KS.out.1 hbv HG.out
        have GC := Lib.hid hget
        simp only [bkt] at GC
        clear hget hbb hbv hab
        go_wp2_with fail
        refine (GC.out).mono ?_
        rintro e y2 ⟨rfl, q2⟩
        clear GC k0 k1 k2 k3 k4 m1
        go_upto_region 21 with fail
        have q3 := q2.alloc (.cells #[.int .u64 0, .string dt, .bool false, .int .i64 tq] 49)
        have HT2 := Lib.hid (And.intro (HT.out.1.on q3) (And.intro (HT.out.2.1.on q3) (HT.out.2.2.trans q3)))
        have HA3 := Lib.hid (HA2.out.on q3)
        have VB := Lib.hid (Bx.new y2 49 #[.int .u64 0, .string dt, .bool false, .int .i64 tq])
        clear HT HA2 q2 q3
        obtain ⟨y3, hy3⟩ : ∃ z, z = y2.alloc (.cells #[.int .u64 0, .string dt, .bool false, .int .i64 tq] 49) := ⟨_, rfl⟩
        rw [← hy3] at HT2 HA3 VB ⊢
        obtain ⟨pv, hpv⟩ : ∃ z, z = y2.heap.size := ⟨_, rfl⟩
        rw [← hpv] at VB ⊢
        clear hy3 hpv
        obtain ⟨⟨a0, a1, a2, a3⟩, -⟩ := bx_ver VB.out
        obtain ⟨B9, b9, B10, b10, hbb, -⟩ := HT2.out.1
        obtain ⟨k0, k1, k2, k3, k4⟩ := bx_bkt hbb
        obtain ⟨A4, c4, hab, -⟩ := HA3.out
        obtain ⟨⟨-, m1, -, -, -, -, -⟩, -⟩ := bx_act hab
        have hrun := HT2.out.2.1.yes HG.out (by have := KS.out.1; unfold maxLen; omega)
        have hlen := HT2.out.2.1.len 3
        have HN : Hid (Off w y3 pb pm d (i + 1)) := Lib.hid ⟨OD.out, HT2.out.1, HT2.out.2.1, HT2.out.2.2, HC.out⟩
        clear hbb hab HT2 HA3 VB
        go_wp2
        go_roundw
        case rel => exact ⟨i + 1, d, by omega, by omega, by go_num, HN⟩
        case measure => simp [intOf]; omega
    obtain rfl : k = 0 := by omega
    clear hk
    obtain ⟨hnt, od, -, hoth, hcase⟩ := off_step HR.out.1 KK.out.1 hFN.out
    have hj0 : j = 0 := by have := HJ.out; omega
    clear hFN hnt HJ
    subst hj0
    have OD := Lib.hid od
    have hl0 : ((d.last : Int) != 0) = false := by rw [od.2.2.1]; rfl
    clear od
    rcases hcase with ⟨h9, hg, hlen⟩ | ⟨h9, hne, hg, hlen⟩
    · have p15 : kx.tmod 9 < 2 := by have := KK.out.2; omega
      have p17 : (kx.tmod 9 == 2) = false := by have := KK.out.2; simp; omega
      obtain ⟨w9, hrun, im, g9⟩ := HR.out.2.2.1.put HR.out.1 (by omega) (by have := KS.out.1; unfold maxLen; omega) KS.out.2 hg hoth hlen
      have HG := Lib.hid hg
      have RUN := Lib.hid hrun
      have ce := HR.out.2.2.1.cells g9
      have HD9 := Lib.hid (HD.out.sameU ce g9 (Ne.symm NM.out))
      have HA9 := Lib.hid (HA.out.sameU ce g9 NP.out)
      have HR9 := Lib.hid (And.intro (HR.out.2.1.sameU ce g9 HR.out.2.2.2.2.1) (And.intro im (And.intro (g9.q HR.out.2.2.2.1 HR.out.2.2.2.2.2.2) HR.out.2.2.2.2)))
      clear h9 hg hlen hoth hrun im g9 ce
      obtain ⟨B5, b5, B6, b6, hdb, -⟩ := HD.out
      obtain ⟨⟨r0, r1, r2, r3, r4, r5, r6, r7⟩, -⟩ := bx_did hdb
      obtain ⟨A4, c4, hab, -⟩ := HA.out
      obtain ⟨⟨m0, m1, m2, m3, m4, m5, m6⟩, -⟩ := bx_act hab
      clear hdb hab
      go_upto_region 17 with (refine wpList_run_put RUN.out rfl _ _ _ rfl rfl rfl rfl ?_)
      clear HR HD HA RUN r0 r1 r2 r3 r4 r5 r6 r7 m0 m1 m2 m3 m4 m5 m6
      have HR := HR9
      have HD := HD9
      have HA := HA9
      clear HR9 HD9 HA9
      obtain ⟨dt, hdt⟩ : ∃ z, z = Y.data := ⟨_, rfl⟩
      obtain ⟨tq, htq⟩ : ∃ z, z = Y.tm := ⟨_, rfl⟩
      rw [← hdt, ← htq] at HG
      clear hdt htq
      obtain ⟨B5, b5, B6, b6, hdb, hdv⟩ := HD.out
      obtain ⟨⟨r0, r1, r2, r3, r4, r5, r6, r7⟩, -⟩ := bx_did hdb
      obtain ⟨B7, b7, B8, b8, hbb, hbv⟩ := HR.out.1
      obtain ⟨k0, k1, k2, k3, k4⟩ := bx_bkt hbb
      obtain ⟨f0, f1, f2, f3, f4⟩ := bkt_frozen hbb
      obtain ⟨A4, c4, hab, -⟩ := HA.out
      obtain ⟨⟨m0, m1, m2, m3, m4, m5, m6⟩, -⟩ := bx_act hab
      obtain ⟨nB, gB⟩ := HR.out.1.store hdv
      have cm := HR.out.1.calm
      have HT : Hid (BoxB _ pb d ∧ InS pm (i + 1) d _ ∧ Q w _) := Lib.hid ⟨nB, HR.out.2.1.kp gB (Ne.symm HR.out.2.2.2.1), gB.q HR.out.2.2.1 HR.out.2.2.2.2.1⟩
      have HA2 := Lib.hid (HA.out.kp cm gB NPB.out)
      have HC := Lib.hid HR.out.2.2.2
      clear nB gB cm hdb hdv hbb hbv hab HR HA HD
      go_upto_region 20 with fail
      obtain ⟨y1, hy1⟩ : ∃ z, z = (((((w9.setCell ⟨pb, 0, none⟩ (.string d.name)).setCell ⟨pb, 1, none⟩ (.int .i64 d.st)).setCell ⟨pb, 2, none⟩ (.slice B5 d.L.length b5)).setCell ⟨pb, 3, none⟩ (.slice B6 d.U.length b6)).setCell ⟨pb, 4, none⟩ (.int .u64 (d.last : Nat))) := ⟨_, rfl⟩
      rw [← hy1] at HT HA2 ⊢
      clear hy1 r0 r1 r2 r3 r4 r5 r6 r7 k0 k1 k2 k3 k4 f0 f1 f2 f3 f4 m0 m1 m2 m3 m4 m5 m6
      obtain ⟨B9, b9, B10, b10, hbb, hbv⟩ := HT.out.1
      obtain ⟨k0, k1, k2, k3, k4⟩ := bx_bkt hbb
      obtain ⟨A4, c4, hab, -⟩ := HA2.out
      obtain ⟨⟨-, m1, -, -, -, -, -⟩, -⟩ := bx_act hab
      have hget := off_some _ _ y1 Y.key dt tq OD.out KS.out.1 hbv HG.out
      have GC := Lib.hid hget
      simp only [bkt] at GC
      clear hget hbb hbv hab
      go_wp2_with fail
      refine (GC.out).mono ?_
      rintro e y2 ⟨rfl, q2⟩
      clear GC k0 k1 k2 k3 k4 m1
      go_upto_region 21 with fail
      have q3 := q2.alloc (.cells #[.int .u64 0, .string dt, .bool false, .int .i64 tq] 49)
      have HT2 := Lib.hid (And.intro (HT.out.1.on q3) (And.intro (HT.out.2.1.on q3) (HT.out.2.2.trans q3)))
      have HA3 := Lib.hid (HA2.out.on q3)
      have VB := Lib.hid (Bx.new y2 49 #[.int .u64 0, .string dt, .bool false, .int .i64 tq])
      clear HT HA2 q2 q3
      obtain ⟨y3, hy3⟩ : ∃ z, z = y2.alloc (.cells #[.int .u64 0, .string dt, .bool false, .int .i64 tq] 49) := ⟨_, rfl⟩
      rw [← hy3] at HT2 HA3 VB ⊢
      obtain ⟨pv, hpv⟩ : ∃ z, z = y2.heap.size := ⟨_, rfl⟩
      rw [← hpv] at VB ⊢
      clear hy3 hpv
      obtain ⟨⟨a0, a1, a2, a3⟩, -⟩ := bx_ver VB.out
      obtain ⟨B9, b9, B10, b10, hbb, -⟩ := HT2.out.1
      obtain ⟨k0, k1, k2, k3, k4⟩ := bx_bkt hbb
      obtain ⟨A4, c4, hab, -⟩ := HA3.out
      obtain ⟨⟨-, m1, -, -, -, -, -⟩, -⟩ := bx_act hab
      have hrun := HT2.out.2.1.yes HG.out (by have := KS.out.1; unfold maxLen; omega)
      have hlen := HT2.out.2.1.len 3
      have HN : Hid (Off w y3 pb pm d (i + 1)) := Lib.hid ⟨OD.out, HT2.out.1, HT2.out.2.1, HT2.out.2.2, HC.out⟩
      clear hbb hab HT2 HA3 VB
      go_wp2
      go_roundw
      case rel => exact ⟨i + 1, d, by omega, by omega, by go_num, HN⟩
      case measure => simp [intOf]; omega
    · have p15 : ¬ kx.tmod 9 < 2 := by have := KK.out.2; omega
      have p17 : (kx.tmod 9 == 2) = true := by have := KK.out.2; simp; omega
      obtain ⟨w9, hrun, im, g9⟩ := HR.out.2.2.1.del HR.out.1 (by have := KS.out.1; unfold maxLen; omega) 0 hne hg hoth hlen
      have HG := Lib.hid hg
      have RUN := Lib.hid hrun
      have ce := HR.out.2.2.1.cells g9
      have HD9 := Lib.hid (HD.out.sameU ce g9 (Ne.symm NM.out))
      have HA9 := Lib.hid (HA.out.sameU ce g9 NP.out)
      have HR9 := Lib.hid (And.intro (HR.out.2.1.sameU ce g9 HR.out.2.2.2.2.1) (And.intro (im.more (Nat.le_succ i)) (And.intro (g9.q HR.out.2.2.2.1 HR.out.2.2.2.2.2.2) HR.out.2.2.2.2)))
      clear h9 hne hg hlen hoth hrun im g9 ce
      obtain ⟨B5, b5, B6, b6, hdb, -⟩ := HD.out
      obtain ⟨⟨r0, r1, r2, r3, r4, r5, r6, r7⟩, -⟩ := bx_did hdb
      obtain ⟨A4, c4, hab, -⟩ := HA.out
      obtain ⟨⟨m0, m1, m2, m3, m4, m5, m6⟩, -⟩ := bx_act hab
      clear hdb hab
      go_upto_region 19 with (refine wpList_run_del RUN.out rfl _ _ rfl rfl rfl ?_)
      clear HR HD HA RUN r0 r1 r2 r3 r4 r5 r6 r7 m0 m1 m2 m3 m4 m5 m6
      have HR := HR9
      have HD := HD9
      have HA := HA9
      clear HR9 HD9 HA9
      obtain ⟨B5, b5, B6, b6, hdb, hdv⟩ := HD.out
      obtain ⟨⟨r0, r1, r2, r3, r4, r5, r6, r7⟩, -⟩ := bx_did hdb
      obtain ⟨B7, b7, B8, b8, hbb, hbv⟩ := HR.out.1
      obtain ⟨k0, k1, k2, k3, k4⟩ := bx_bkt hbb
      obtain ⟨f0, f1, f2, f3, f4⟩ := bkt_frozen hbb
      obtain ⟨A4, c4, hab, -⟩ := HA.out
      obtain ⟨⟨m0, m1, m2, m3, m4, m5, m6⟩, -⟩ := bx_act hab
      obtain ⟨nB, gB⟩ := HR.out.1.store hdv
      have cm := HR.out.1.calm
      have HT : Hid (BoxB _ pb d ∧ InS pm (i + 1) d _ ∧ Q w _) := Lib.hid ⟨nB, HR.out.2.1.kp gB (Ne.symm HR.out.2.2.2.1), gB.q HR.out.2.2.1 HR.out.2.2.2.2.1⟩
      have HA2 := Lib.hid (HA.out.kp cm gB NPB.out)
      have HC := Lib.hid HR.out.2.2.2
      clear nB gB cm hdb hdv hbb hbv hab HR HA HD
      go_upto_region 20 with fail
      obtain ⟨y1, hy1⟩ : ∃ z, z = (((((w9.setCell ⟨pb, 0, none⟩ (.string d.name)).setCell ⟨pb, 1, none⟩ (.int .i64 d.st)).setCell ⟨pb, 2, none⟩ (.slice B5 d.L.length b5)).setCell ⟨pb, 3, none⟩ (.slice B6 d.U.length b6)).setCell ⟨pb, 4, none⟩ (.int .u64 (d.last : Nat))) := ⟨_, rfl⟩
      rw [← hy1] at HT HA2 ⊢
      clear hy1 r0 r1 r2 r3 r4 r5 r6 r7 k0 k1 k2 k3 k4 f0 f1 f2 f3 f4 m0 m1 m2 m3 m4 m5 m6
      obtain ⟨B9, b9, B10, b10, hbb, hbv⟩ := HT.out.1
      obtain ⟨k0, k1, k2, k3, k4⟩ := bx_bkt hbb
      obtain ⟨A4, c4, hab, -⟩ := HA2.out
      obtain ⟨⟨-, m1, -, -, -, -, -⟩, -⟩ := bx_act hab
      obtain ⟨f, hf, hget⟩ := off_none _ _ y1 Y.key OD.out KS.out.1 hbv HG.out
      have GC := Lib.hid hget
      simp only [bkt] at GC
      clear hget hbb hbv hab
      go_wp2_with fail
      refine (GC.out).mono ?_
      rintro e y2 ⟨rfl, q2⟩
      clear GC k0 k1 k2 k3 k4 m1
      go_upto_region 21 with fail
      have q3 := q2.alloc (.cells #[.int .u64 0, .string ⟨#[]⟩, .bool false, .int .i64 0] 49)
      have HT2 := Lib.hid (And.intro (HT.out.1.on q3) (And.intro (HT.out.2.1.on q3) (HT.out.2.2.trans q3)))
      have HA3 := Lib.hid (HA2.out.on q3)
      have VB := Lib.hid (Bx.new y2 49 #[.int .u64 0, .string ⟨#[]⟩, .bool false, .int .i64 0])
      clear HT HA2 q2 q3
      obtain ⟨y3, hy3⟩ : ∃ z, z = y2.alloc (.cells #[.int .u64 0, .string ⟨#[]⟩, .bool false, .int .i64 0] 49) := ⟨_, rfl⟩
      rw [← hy3] at HT2 HA3 VB ⊢
      obtain ⟨pv, hpv⟩ : ∃ z, z = y2.heap.size := ⟨_, rfl⟩
      rw [← hpv] at VB ⊢
      clear hy3 hpv
      obtain ⟨⟨a0, a1, a2, a3⟩, -⟩ := bx_ver VB.out
      obtain ⟨B9, b9, B10, b10, hbb, -⟩ := HT2.out.1
      obtain ⟨k0, k1, k2, k3, k4⟩ := bx_bkt hbb
      obtain ⟨A4, c4, hab, -⟩ := HA3.out
      obtain ⟨⟨-, m1, -, -, -, -, -⟩, -⟩ := bx_act hab
      obtain ⟨s9, hrun⟩ := HT2.out.2.1.no HG.out (by have := KS.out.1; unfold maxLen; omega)
      have hlen := HT2.out.2.1.len 3
      have HN : Hid (Off w y3 pb pm d (i + 1)) := Lib.hid ⟨OD.out, HT2.out.1, HT2.out.2.1, HT2.out.2.2, HC.out⟩
      clear hbb hab HT2 HA3 VB
      go_wp2
      go_roundw
      case rel => exact ⟨i + 1, d, by omega, by omega, by go_num, HN⟩
      case measure => simp [intOf]; omega

set_option maxRecDepth 100000 in
theorem lifted (os : Os) (started : os.Started) (H : Type) (enc : TypeId × Value → H) :
    ReturnsInHanded {} Tryz.checked os 7 .any (Rows.bucketOffSpec.pre6 enc Tryz.prog Tryz.f7 Rows.bucketOffRow.domain false) (Rows.bucketOffSpec.post enc Tryz.prog Tryz.f7 false true false false) := by
  refine returnsInHanded_of_change (C := Tryz.checked) own started (by kernel_rfl) Tryz.func7
    (ChangeSpec.witness6 (enc := enc) (C := Tryz.checked) false ⟨#[], #[.slice none 0 0], []⟩ 8 (by kernel_rfl) (by kernel_rfl) (by kernel_rfl) (by kernel_rfl)) ?_
  intro W base args ds gs before hval0 hW hcnd _
  have hval : ∀ (j : Nat) t v, Tryz.f7.params[j]? = some t → args[j]? = some v → Value.okWide Tryz.prog W .any base t v := hval0
  have hW' := hW
  obtain ⟨p, q, hA0, hV, rfl, hfz, hnd⟩ := hW
  have hA : DataW.TrodAll enc Tryz.prog W 0 (fun _ => true) true Tryz.f7.params.toList args.toList ds p := hA0
  rw [Tryz.params7] at hA hval
  obtain ⟨v0, vs0, d0, ds0, p0, q0, hargs, rfl, rfl, h0, r0⟩ := trodAll_cons hA
  obtain ⟨rfl, rfl, rfl⟩ := trodAll_nil r0
  obtain rfl : args = #[v0] := by cases args; simp_all
  obtain ⟨rfl, rfl⟩ := trodVars_none hV
  clear hA0 hval0
  simp only [List.append_nil] at hW'
  have hlt : ∀ x ∈ p0, x.block < W.heap.size := fun x hx => by simpa using hW'.lt x (by simpa using hx)
  obtain ⟨l0, t0, z0⟩ := open_acts (hval 0 41 v0 rfl rfl) h0
  refine (walk l0 v0 W t0 z0).mono fun e W' ⟨he, bel⟩ => ?_
  subst he
  refine ⟨_, rfl, _, _, _, [], _, [], hW', trodAll_mk1 (shut_bool Tryz.underlying4 _), (trodAll_cons_mk (Below.trod laid (by kernel_rfl) (of_decide_eq_true (by kernel_rfl)) h0 bel (fun x hx => hlt x (by simp [hx]))) trodAll_mk0), rfl, Below.frame bel _, fun h => by cases h⟩

theorem over : Rows.bucketOffRow.holds Tryz.pinned (OpenSpec.ofChange Rows.bucketOffSpec) :=
  OpenClaim.holds_of_wide 7 Tryz.f7 rfl rfl rfl rfl rfl rfl rfl ⟨rfl, rfl, rfl, rfl, rfl⟩ rfl rfl rfl rfl rfl (by kernel_rfl) Tryz.func7 (by kernel_rfl)
    (of_decide_eq_true (by kernel_rfl)) (by unfold Func.isWrapper; first | (rw [if_pos (by decide +kernel)]; kernel_rfl) | (rw [if_neg (by decide +kernel)]; exact ⟨rfl, rfl⟩))
    (fun os started H enc _ => lifted os started H enc)

theorem proved : Rows.BucketOffSaid := over
#print axioms proved
end Go.Proofs.YtjjlbbfhmpbneaaGreat.bucketOff
