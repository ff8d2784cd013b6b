/-
  Proved: whatever bucket and acts BucketKeeps is called with, it returns true and leaves what it was given as it was. No condition.
-/
import Derived.Test.YtjjlbbfhmpbneaaGreatKz
import Derived.Test.YtjjlbbfhmpbneaaGreatKza
import Derived.Test.YtjjlbbfhmpbneaaGreatKw
import Derived.Test.YtjjlbbfhmpbneaaGreatKn
namespace Go.Proofs.YtjjlbbfhmpbneaaGreat.bucketKeeps
set_option maxRecDepth 100000
open Go.ChangeShapes Go.WideShapes Go.ChangeAt Go.RowKit Go.Shelf
open Go.ChangeMaps (open_string shut_string)
set_option linter.unusedVariables false
set_option linter.unusedSimpArgs false

/-- What the loop keeps. -/
def Keep (w wr : World) (pb pm : Nat) (b : Bkt) (es : Array MapEntry) (clock : Nat) : Prop :=
  (okB b ∧ b.st = 1 ∧ LaidW b es clock) ∧ BoxB wr pb b ∧ wr.heap[pm]? = some (.map es clock) ∧ Q w wr ∧ pb ≠ pm ∧ w.heap.size ≤ pb ∧ w.heap.size ≤ pm
theorem Keep.on {w wr w' : World} {pb pm clock : Nat} {b : Bkt} {es : Array MapEntry} (h : Keep w wr pb pm b es clock) (q : Q wr w') : Keep w w' pb pm b es clock := by
  obtain ⟨r1, r2, r3, r4, r5⟩ := h
  exact ⟨r1, r2.on q, (Below.block q _ (lt_of_block r3)).trans r3, r4.trans q, r5⟩
theorem bx_wh {w : World} {p : Nat} {x0 x1 : Value} (h : Bx w p 52 #[x0, x1]) : w.cell? ⟨p, 0, none⟩ = some x0 ∧ w.cell? ⟨p, 1, none⟩ = some x1 := by
  refine ⟨?_, ?_⟩ <;> (rw [h.cell]; rfl)
theorem find_val (x : Ver) : ∃ z : Int, findR (some x) = .tuple #[.agg #[.int .u64 (x.id : Nat), .string x.data, .bool x.mark, .int .i64 x.tm], .int .i64 z] := ⟨_, rfl⟩
theorem oneV_small {v : Ver} (h : v.data.size ≤ 2001) : oneV v = v := by
  unfold oneV
  rw [if_neg (by omega)]
theorem findW_off {b : Bkt} {lv uv : Value} {w : World} {key : ByteArray} {x : Ver} (hb : okB b) (hk : hasO 1 60 ko key = true) (hv : BktV w b lv uv) (hf : findV (getE b.L key) x.id = some x) :
    ∃ z : Int, Calls Tryz.prog 21 #[bkt b lv uv, .string key, .int .u64 (x.id : Nat)] w fun e w' => e = .returned (.tuple #[.agg #[.int .u64 (x.id : Nat), .string x.data, .bool x.mark, .int .i64 x.tm], .int .i64 z]) ∧ Q w w' := by
  have sm := sm_of hb
  obtain ⟨z, hz⟩ := find_val x
  have h := bFind_yes b lv uv w key x.id hb hk sm.1 sm.2.1 sm.2.2 (by have := key_le hk; omega) hv
  rw [hf, hz] at h
  exact ⟨z, h⟩
set_option maxHeartbeats 32000000 in
set_option maxRecDepth 100000 in
theorem walk (b : Bkt) (lv uv : Value) (l : List Actn) (v : Value) (w : World) (hin : InB w b lv uv) (t0 : Acts w w.heap.size v l) (z0 : l.length ≤ maxLen) :
    Calls Tryz.prog 5 #[bkt b lv uv, v] w fun e w' => e = .returned (.bool true) ∧ Q w w' := by
  obtain ⟨hv, hn, hl, hu, -, -, -⟩ := hin
  obtain ⟨A1, c1, rfl⟩ := hv.1.form
  obtain ⟨A2, c2, rfl⟩ := hv.2.form
  obtain ⟨A, c, rfl⟩ := t0.form
  have T0 := Lib.hid t0
  have q0 : Q w (w.alloc (.cells (bcl b (.slice A1 b.L.length c1) (.slice A2 b.U.length c2)) 26)) := (Q.refl w).alloc _
  have Z : Hid (BoxB (w.alloc (.cells (bcl b (.slice A1 b.L.length c1) (.slice A2 b.U.length c2)) 26)) w.heap.size b) := Lib.hid (BoxB.new hv)
  have FB := Lib.hid (fewB_any b (.slice A1 b.L.length c1) (.slice A2 b.U.length c2) (w.alloc (.cells (bcl b (.slice A1 b.L.length c1) (.slice A2 b.U.length c2)) 26)) hn hl hu (hv.on q0))
  obtain ⟨sn, sE, sU⟩ := fewB_small b
  obtain ⟨B, hB⟩ : ∃ B, B = fewB b := ⟨_, rfl⟩
  rw [← hB] at FB sn sE sU
  simp only [bkt] at FB
  obtain ⟨d, n, t, s, k, hF⟩ := finC_ex B (R := TurnR B 1) (by obtain ⟨d, k, h⟩ := wturn_ex B 1; exact ⟨d, 0, 0, noS, k, h, rfl, rfl, rfl⟩)
  have TU := Lib.hid fun x lv uv (hx : BktV x B lv uv) => bTurn_any B lv uv x 1 d n t s k hF sn sE sU hx
  have HF := Lib.hid hF
  have AW := Lib.hid fun x => awakeB_any x
  have hmm := @run_makeMap Tryz.prog
  simp only [bkt] at TU
  clear t0 hF sn sE sU hn hl hu hv hB
  rw [bkt]
  go_enter Tryz.func5, Tryz.ntmps5
  go_wp2_with fail
  refine (FB.out).mono ?_
  rintro e w1 ⟨A3, c3, A4, c4, rfl, v1, q1⟩
  have C := Lib.hid (TU.out _ _ _ v1)
  clear FB TU v1
  go_wp2_with fail
  refine (C.out).mono ?_
  rintro e w2 ⟨A5, c5, A6, c6, rfl, v2, q2⟩
  obtain ⟨g1, g2, g3, g4, hbb, hvv⟩ := Z.out.on (q1.trans q2)
  obtain ⟨k0, k1, k2, k3, k4⟩ := bx_bkt hbb
  obtain ⟨f0, f1, f2, f3, f4⟩ := bkt_frozen hbb
  have hh : BoxB w2 w.heap.size b := ⟨g1, g2, g3, g4, hbb, hvv⟩
  obtain ⟨nB, gk⟩ := hh.store v2
  have nq := gk.q (q0.trans (q1.trans q2)) (Nat.le_refl _)
  clear Z C
  go_upto_region 2 with fail
  have K := Lib.hid (And.intro nB nq)
  obtain ⟨x1, hx1⟩ : ∃ x, x = (((((w2.setCell ⟨w.heap.size, 0, none⟩ (.string d.name)).setCell ⟨w.heap.size, 1, none⟩ (.int .i64 d.st)).setCell ⟨w.heap.size, 2, none⟩ (.slice A5 d.L.length c5)).setCell ⟨w.heap.size, 3, none⟩ (.slice A6 d.U.length c6)).setCell ⟨w.heap.size, 4, none⟩ (.int .u64 (d.last : Nat))) := ⟨_, rfl⟩
  rw [← hx1] at K ⊢
  clear hx1 nB gk nq hh hbb hvv k0 k1 k2 k3 k4 f0 f1 f2 f3 f4 v2 q0 q1 q2
  by_cases hk : k ≠ 0
  · have hk1 : ((k : Int) != 0) = true := by simpa using hk
    clear hk
    go_wp2_with fail
    refine (AW.out _).mono ?_
    rintro e w9 ⟨rfl, q9⟩
    have nq := K.out.2.trans q9
    go_wp2
    go_ret
    exact ⟨rfl, nq⟩
  have hk9 : k = 0 := by omega
  have hk2 : ((k : Int) != 0) = false := by rw [hk9]; rfl
  have HF9 := HF.out
  rw [hk9] at HF9
  obtain ⟨okd, hst⟩ := turn_on HF9
  clear HF hk hk9 HF9
  go_upto_region 5 with fail
  clear hk2
  have HS : Hid (Keep w (x1.alloc (.map #[] 0)) w.heap.size x1.heap.size d #[] 0) := Lib.hid ⟨⟨okd, hst, laidW_nil d⟩, K.out.1.on ((Q.refl _).alloc _), heap_alloc_new _ _, K.out.2.alloc _, Nat.ne_of_lt K.out.1.lt, Nat.le_refl _, K.out.2.size⟩
  obtain ⟨x2, hx2⟩ : ∃ z, z = x1.alloc (.map #[] 0) := ⟨_, rfl⟩
  rw [← hx2] at HS ⊢
  obtain ⟨pm, hpm⟩ : ∃ p, p = x1.heap.size := ⟨_, rfl⟩
  rw [← hpm] at HS ⊢
  obtain ⟨pb, hpb⟩ : ∃ p, p = w.heap.size := ⟨_, rfl⟩
  rw [← hpb] at HS ⊢
  obtain ⟨D, hD⟩ : ∃ z, z = d := ⟨_, rfl⟩
  rw [← hD] at HS
  clear K hpm hpb hmm hx2 okd hst hD
  go_wp2_with fail
  go_loopw [7] (fun I wr => ∃ (i : Nat) (b : Bkt) (es : Array MapEntry) (clock : Nat), i ≤ 30 ∧ i ≤ l.length ∧ I = .int .i64 i ∧ Hid (Keep w wr pb pm b es clock)) (fun I _ => 30 - (intOf I).toNat)
  case atStart => exact ⟨0, D, #[], 0, by omega, by omega, rfl, HS⟩
  case round =>
    obtain ⟨i, b, es, clock, hi30, hil, rfl, HR⟩ := hrel
    clear HS
    by_cases hlt : ¬ i < l.length
    · have hilt : ¬ (i : Int) < (l.length : Int) := by omega
      go_wp2_with fail
      refine (AW.out _).mono ?_
      rintro e w9 ⟨rfl, q9⟩
      have nq := HR.out.2.2.2.1.trans q9
      go_wp2
      go_ret
      exact ⟨rfl, nq⟩
    have hlt : i < l.length := by omega
    by_cases h40 : ¬ i < 30
    · have hilt : (i : Int) < (l.length : Int) := by omega
      have hi4 : ¬ (i : Int) < 30 := by omega
      go_wp2_with fail
      refine (AW.out _).mono ?_
      rintro e w9 ⟨rfl, q9⟩
      have nq := HR.out.2.2.2.1.trans q9
      go_wp2
      go_ret
      exact ⟨rfl, nq⟩
    obtain ⟨a, c', hv, ha, hok, A2, c2, hP, hat⟩ := T0.out.pick i hlt
    injection hv with e1 e2 e3
    subst e1 e3
    obtain ⟨d0, d1, d2, d3, d4, d5, d6⟩ := hat _ HR.out.2.2.2.1
    obtain ⟨x, hx⟩ : ∃ x, x = l[i] := ⟨_, rfl⟩
    rw [← hx] at d0 d1 d2 d3 d4 d5 d6 hP hok
    have CUT := Lib.hid (cutA_any x (.slice A2 x.P.length c2) _ hok (hP.on HR.out.2.2.2.1))
    obtain ⟨X, hX⟩ : ∃ X, X = cutA x := ⟨_, rfl⟩
    obtain ⟨hx5, hx6, hx8, hx7⟩ := cutA_ok hok
    rw [← hX] at CUT hx5 hx6 hx7 hx8
    simp only [actV, acl] at CUT
    have HX := Lib.hid (And.intro hx5 (And.intro hx6 (And.intro hx7 hx8)))
    have hilt : (i : Int) < (l.length : Int) := by omega
    have hi4 : (i : Int) < 30 := by omega
    clear hx hX hx5 hx6 hx7 hx8 hok hP hat ha
    go_wp2_with fail
    refine (CUT.out).mono ?_
    rintro e w4 ⟨A3, c3, rfl, v4, q4⟩
    clear d0 d1 d2 d3 d4 d5 d6 CUT
    go_upto_region 9 with fail
    have HA : Hid (BoxA (w4.alloc (.cells #[.int .u8 (X.kind : Nat), .string X.key, .string X.data, .int .u64 (X.id : Nat), .int .i64 X.n, .int .i64 X.tm, .slice A3 X.P.length c3] 29)) w4.heap.size X) := Lib.hid (BoxA.new v4)
    have HR2 := Lib.hid (HR.out.on (q4.alloc (.cells #[.int .u8 (X.kind : Nat), .string X.key, .string X.data, .int .u64 (X.id : Nat), .int .i64 X.n, .int .i64 X.tm, .slice A3 X.P.length c3] 29)))
    have NA : Hid (pb ≠ w4.heap.size ∧ pm ≠ w4.heap.size) := Lib.hid ⟨Nat.ne_of_lt (HR.out.on q4).2.1.lt, Nat.ne_of_lt (lt_of_block (HR.out.on q4).2.2.1)⟩
    clear HR q4 v4
    have HR := HR2
    clear HR2
    obtain ⟨x5, hx5⟩ : ∃ z, z = w4.alloc (.cells #[.int .u8 (X.kind : Nat), .string X.key, .string X.data, .int .u64 (X.id : Nat), .int .i64 X.n, .int .i64 X.tm, .slice A3 X.P.length c3] 29) := ⟨_, rfl⟩
    rw [← hx5] at HA HR ⊢
    obtain ⟨pa, hpa⟩ : ∃ p, p = w4.heap.size := ⟨_, rfl⟩
    rw [← hpa] at HA NA ⊢
    clear hx5 hpa
    obtain ⟨kx, hkx⟩ : ∃ kd : Int, kd = (X.kind : Int) := ⟨_, rfl⟩
    have TX := Lib.hid (show kx.tmod 9 = ((X.kind % 9 : Nat) : Int) by rw [hkx, Int.tmod_eq_emod_of_nonneg (by omega)]; omega)
    have HKX := Lib.hid hkx
    obtain ⟨A4, c4, hab, hav⟩ := HA.out
    obtain ⟨⟨m0, m1, m2, m3, m4, m5, m6⟩, g0, g1, g2, g3, g4, g5, g6⟩ := bx_act hab
    rw [← hkx] at m0
    clear hkx
    by_cases h3 : X.kind % 9 = 3
    · have p3 : (kx.tmod 9 == 3) = true := by rw [TX.out, h3]; rfl
      clear hab hav h3
      have HN := HR
      go_wp2
      go_roundw
      case rel => exact ⟨i + 1, b, es, clock, by omega, by omega, by go_num, HN⟩
      case measure => simp [intOf]; omega
    have p3 : (kx.tmod 9 == 3) = false := by rw [TX.out]; simp; omega
    by_cases h4 : X.kind % 9 = 4
    · have p4 : (kx.tmod 9 == 4) = true := by rw [TX.out, h4]; rfl
      clear hab hav h3
      have HN := HR
      go_wp2
      go_roundw
      case rel => exact ⟨i + 1, b, es, clock, by omega, by omega, by go_num, HN⟩
      case measure => simp [intOf]; omega
    have p4 : (kx.tmod 9 == 4) = false := by rw [TX.out]; simp; omega
    go_upto_region 11 with fail
    clear m0 m1 m2 m3 m4 m5 m6 g0 g1 g2 g3 g4 g5 g6 p3 p4
    obtain ⟨⟨m0, m1, m2, m3, m4, m5, m6⟩, -⟩ := bx_act hab
    obtain ⟨d, n, t, s, k, hF⟩ := do_ex9 b X
    have KEEP := Lib.hid (do_keeps HR.out.1.1 HR.out.1.2.1 h3 h4 hF)
    obtain ⟨B1, b1, B2, b2, hbb, hbv⟩ := HR.out.2.1
    obtain ⟨k0, k1, k2, k3, k4⟩ := bx_bkt hbb
    have sm := sm_of HR.out.1.1
    have DO := Lib.hid (do_any b _ _ X _ x5 d n t s k hF HX.out.1 (by have := HX.out.2.1; omega) (by have := HX.out.2.2.1; omega) sm.1 sm.2.1 sm.2.2 hbv hav)
    obtain ⟨j, hj⟩ : ∃ j, j = n + t := ⟨_, rfl⟩
    rw [← hj] at DO
    simp only [bkt, actV, acl, didV, didC] at DO
    have HJ := Lib.hid hj
    clear hbb hbv hab hav sm hF hj h3 h4
    go_wp2_with fail
    refine (DO.out).mono ?_
    rintro e w6 ⟨B3, b3, B4, b4, rfl, v6, q6⟩
    clear k0 k1 k2 k3 k4 m0 m1 m2 m3 m4 m5 m6 DO
    go_upto_region 12 with fail
    have q7 := q6.alloc (.cells #[.string d.name, .int .i64 d.st, .slice B3 d.L.length b3, .slice B4 d.U.length b4, .int .u64 (d.last : Nat), .int .u64 (j : Nat), .string s, .int .i64 (k : Nat)] 34)
    have HD : Hid (BoxD (w6.alloc (.cells #[.string d.name, .int .i64 d.st, .slice B3 d.L.length b3, .slice B4 d.U.length b4, .int .u64 (d.last : Nat), .int .u64 (j : Nat), .string s, .int .i64 (k : Nat)] 34)) w6.heap.size d j s k) := Lib.hid ⟨B3, b3, B4, b4, Bx.new _ _ _, v6.on ((Q.refl _).alloc _)⟩
    have HA2 := Lib.hid (HA.out.on q7)
    have HR2 := Lib.hid (HR.out.on q7)
    have ND : Hid (pb ≠ w6.heap.size ∧ pm ≠ w6.heap.size ∧ w.heap.size ≤ w6.heap.size) := Lib.hid ⟨Nat.ne_of_lt (HR.out.on q6).2.1.lt, Nat.ne_of_lt (lt_of_block (HR.out.on q6).2.2.1), (HR.out.on q6).2.2.2.1.size⟩
    clear HR HA q6 q7 v6
    have HA := HA2
    clear HA2
    obtain ⟨x7, hx7⟩ : ∃ z, z = w6.alloc (.cells #[.string d.name, .int .i64 d.st, .slice B3 d.L.length b3, .slice B4 d.U.length b4, .int .u64 (d.last : Nat), .int .u64 (j : Nat), .string s, .int .i64 (k : Nat)] 34) := ⟨_, rfl⟩
    rw [← hx7] at HA HR2 HD ⊢
    obtain ⟨pd, hpd⟩ : ∃ p, p = w6.heap.size := ⟨_, rfl⟩
    rw [← hpd] at HD ND ⊢
    clear hx7 hpd
    have HR := Lib.hid HR2.out.2
    have HL0 := Lib.hid HR2.out.1
    clear HR2
    by_cases hk : k ≠ 0
    · have hk2 : ((k : Int) == 0) = false := by simpa using hk
      have HL : Hid (okB d ∧ d.st = 1 ∧ LaidW d es clock) := Lib.hid ⟨KEEP.out.1, KEEP.out.2.1, HL0.out.2.2.kept KEEP.out.2.2.1⟩
      clear hk KEEP HL0 HA
      obtain ⟨B5, b5, B6, b6, hdb, hdv⟩ := HD.out
      obtain ⟨⟨r0, r1, r2, r3, r4, r5, r6, r7⟩, -⟩ := bx_did hdb
      obtain ⟨B7, b7, B8, b8, hbb, hbv⟩ := HR.out.1
      obtain ⟨k0, k1, k2, k3, k4⟩ := bx_bkt hbb
      obtain ⟨f0, f1, f2, f3, f4⟩ := bkt_frozen hbb
      obtain ⟨nB, gB⟩ := HR.out.1.store hdv
      have HN : Hid (Keep w _ pb pm d es clock) := Lib.hid ⟨HL.out, nB, (gB.block _ (lt_of_block HR.out.2.1) (fun e => HR.out.2.2.2.1 (by injection e with e; exact e.symm))).trans HR.out.2.1, gB.q HR.out.2.2.1 HR.out.2.2.2.2.1, HR.out.2.2.2⟩
      clear nB gB hdb hdv hbb hbv HR HD HL
      go_upto_region 18 with fail
      obtain ⟨y1, hy1⟩ : ∃ z, z = (((((x7.setCell ⟨pb, 0, none⟩ (.string d.name)).setCell ⟨pb, 1, none⟩ (.int .i64 d.st)).setCell ⟨pb, 2, none⟩ (.slice B5 d.L.length b5)).setCell ⟨pb, 3, none⟩ (.slice B6 d.U.length b6)).setCell ⟨pb, 4, none⟩ (.int .u64 (d.last : Nat))) := ⟨_, rfl⟩
      rw [← hy1] at HN ⊢
      clear hy1  r0 r1 r2 r3 r4 r5 r6 r7 k0 k1 k2 k3 k4 f0 f1 f2 f3 f4
      have hmb := HN.out.2.2.1
      go_wp2_with (refine wpList_range_w _ rfl _ rfl _ _ _ rfl hmb ?_)
      obtain ⟨pi, hpi⟩ : ∃ z, z = y1.heap.size := ⟨_, rfl⟩
      have HPI : Hid (y1.heap.size ≤ pi) := Lib.hid (by omega)
      have hit0 : (y1.alloc (.mapIter (some pm) clock #[] clock)).heap[pi]? = some (.mapIter (some pm) clock #[] clock) := by rw [hpi]; exact heap_alloc_new _ _
      have HI0 := Lib.hid hit0
      have HQ0 : Hid (Q y1 (y1.alloc (.mapIter (some pm) clock #[] clock))) := Lib.hid ((Q.refl _).alloc _)
      obtain ⟨y2, hy2⟩ : ∃ z, z = (y1.alloc (.mapIter (some pm) clock #[] clock)) := ⟨_, rfl⟩
      rw [← hpi]
      rw [← hy2] at HI0 HQ0 ⊢
      (try simp only [Act.put, List.setIfInBounds_toArray, List.set_cons_zero, List.set_cons_succ])
      clear hpi hy2 hit0 hmb
      go_loopw [12, 13, 14, 15] (fun _ _ _ _ wr2 => ∃ (seen : Array Nat) (c0 : Nat), wr2.heap[pi]? = some (.mapIter (some pm) clock seen c0) ∧ clock ≤ c0 ∧ Q y1 wr2) (fun _ _ _ _ wr2 => leftW wr2 pi es)
      case atStart => exact ⟨#[], clock, HI0.out, Nat.le_refl _, HQ0.out⟩
      case round =>
        obtain ⟨seen, c0, hit, hc0, qr⟩ := hrel
        clear HI0 HQ0
        have hmr := (Below.block qr pm (lt_of_block HN.out.2.2.1)).trans HN.out.2.2.1
        have hold : ∀ e ∈ (es).toList, e.born < clock := fun e he => (HN.out.1.2.2.1 e he).1
        by_cases hleft : (leftOf es seen).size = 0
        · have HN2 := Lib.hid (HN.out.on qr)
          go_wp2_with (refine wpList_next_w _ rfl _ rfl _ _ _ _ _ _ _ rfl hit hmr hold hc0 (fun _ => ?_) (fun e he => (leftW_empty hleft he).elim))
          go_roundw
          case rel => exact ⟨i + 1, d, es, clock, by omega, by omega, by go_num, HN2⟩
          case measure => simp [intOf]; omega
        · go_upto_region 21 with (first
            | (refine wpList_next_w _ rfl _ rfl _ _ _ _ _ _ _ rfl hit hmr hold hc0 (fun h => absurd h hleft) ?_; intro en hen w5 hw5; have hmem := (mem_left hen).1; obtain ⟨-, ek, x', hk', hv', hek, hxi, hfx⟩ := HN.out.1.2.2.1 en hmem; have q5 := (iterW_q qr hw5).setBlock (b := pi) HPI.out (.mapIter (some pm) clock (seen.push en.born) clock); have hit5 := iterW_set (o' := .mapIter (some pm) clock (seen.push en.born) clock) (iterW_at hit hw5); have hmr5 := (Below.block q5 pm (lt_of_block HN.out.2.2.1)).trans HN.out.2.2.1; rw [hk', hv', whV, ver])
            | (refine wpList_entry_w _ rfl _ rfl _ _ _ _ _ _ en rfl hit5 hmr5 hmem HN.out.1.2.2.2 ?_; rw [hk', hv', whV, ver]))
          obtain ⟨ws, hws⟩ : ∃ z, z = Go.ChangeMaps.setBlock w5 pi (.mapIter (some pm) clock (seen.push en.born) clock) := ⟨_, rfl⟩
          rw [← hws] at q5 hit5 ⊢
          clear hws hmr5 hmr hw5
          have q6 := q5.alloc (.cells #[.string ek, .int .u64 (x'.id : Nat)] 52) |>.alloc (.cells #[.int .u64 (x'.id : Nat), .string x'.data, .bool x'.mark, .int .i64 x'.tm] 49)
          have BW := Lib.hid ((Bx.new ws 52 #[.string ek, .int .u64 (x'.id : Nat)]).alloc (.cells #[.int .u64 (x'.id : Nat), .string x'.data, .bool x'.mark, .int .i64 x'.tm] 49))
          have BV0 := Bx.new (ws.alloc (.cells #[.string ek, .int .u64 (x'.id : Nat)] 52)) 49 #[.int .u64 (x'.id : Nat), .string x'.data, .bool x'.mark, .int .i64 x'.tm]
          simp only [World.size_alloc] at BV0
          have BV := Lib.hid BV0
          have HIT := Lib.hid ((Below.block (((Q.refl ws).alloc (.cells #[.string ek, .int .u64 (x'.id : Nat)] 52)).alloc (.cells #[.int .u64 (x'.id : Nat), .string x'.data, .bool x'.mark, .int .i64 x'.tm] 49)) _ (lt_of_block hit5)).trans hit5)
          have Q6 := Lib.hid q6
          clear q6 q5 hit5 BV0
          obtain ⟨ps, hps⟩ : ∃ z, z = ws.heap.size := ⟨_, rfl⟩
          obtain ⟨w7, hw7⟩ : ∃ z, z = ((ws.alloc (.cells #[.string ek, .int .u64 (x'.id : Nat)] 52)).alloc (.cells #[.int .u64 (x'.id : Nat), .string x'.data, .bool x'.mark, .int .i64 x'.tm] 49)) := ⟨_, rfl⟩
          rw [← hw7] at BW BV HIT Q6 ⊢
          rw [← hps] at BW BV ⊢
          clear hw7 hps
          obtain ⟨g1, g2, g3, g4, hbb, hvv⟩ := HN.out.2.1.on Q6.out
          obtain ⟨k0, k1, k2, k3, k4⟩ := bx_bkt hbb
          obtain ⟨v0, v1⟩ := bx_wh BW.out
          obtain ⟨ze, hFI⟩ := findW_off HN.out.1.1 hek hvv hfx
          simp only [bkt] at hFI
          have FI := Lib.hid hFI
          clear hFI hbb hvv
          go_wp2_with fail
          refine (FI.out).mono ?_
          rintro e w8 ⟨rfl, q8⟩
          clear FI k0 k1 k2 k3 k4 v0 v1
          go_upto_region 22 with fail
          have q9 := q8.alloc (.cells #[.int .u64 (x'.id : Nat), .string x'.data, .bool x'.mark, .int .i64 x'.tm] 49)
          have hit9 := (Below.block q9 _ (lt_of_block HIT.out)).trans HIT.out
          have Q9 := Q6.out.trans q9
          obtain ⟨⟨a0, a1, a2, a3⟩, -⟩ := bx_ver (BV.out.on q9)
          obtain ⟨⟨c0', c1', c2', c3'⟩, -⟩ := bx_ver (Bx.new w8 49 #[.int .u64 (x'.id : Nat), .string x'.data, .bool x'.mark, .int .i64 x'.tm])
          clear q8 q9 HIT Q6 BW BV
          go_wp2
          go_roundw
          case rel => exact ⟨seen.push en.born, clock, hit9, Nat.le_refl _, Q9⟩
          case measure => simp only [leftW, hit9, hit]; exact left_shrinks _ _ _ hen
    obtain rfl : k = 0 := by omega
    clear hk
    by_cases h9 : ¬ X.kind % 9 < 3
    · have hk3 : ¬ kx.tmod 9 < 3 := by rw [TX.out]; omega
      have HL : Hid (okB d ∧ d.st = 1 ∧ LaidW d es clock) := Lib.hid ⟨KEEP.out.1, KEEP.out.2.1, HL0.out.2.2.kept KEEP.out.2.2.1⟩
      clear h9 KEEP HL0 HA
      obtain ⟨B5, b5, B6, b6, hdb, hdv⟩ := HD.out
      obtain ⟨⟨r0, r1, r2, r3, r4, r5, r6, r7⟩, -⟩ := bx_did hdb
      obtain ⟨B7, b7, B8, b8, hbb, hbv⟩ := HR.out.1
      obtain ⟨k0, k1, k2, k3, k4⟩ := bx_bkt hbb
      obtain ⟨f0, f1, f2, f3, f4⟩ := bkt_frozen hbb
      obtain ⟨nB, gB⟩ := HR.out.1.store hdv
      have HN : Hid (Keep w _ pb pm d es clock) := Lib.hid ⟨HL.out, nB, (gB.block _ (lt_of_block HR.out.2.1) (fun e => HR.out.2.2.2.1 (by injection e with e; exact e.symm))).trans HR.out.2.1, gB.q HR.out.2.2.1 HR.out.2.2.2.2.1, HR.out.2.2.2⟩
      clear nB gB hdb hdv hbb hbv HR HD HL
      go_upto_region 18 with fail
      obtain ⟨y1, hy1⟩ : ∃ z, z = (((((x7.setCell ⟨pb, 0, none⟩ (.string d.name)).setCell ⟨pb, 1, none⟩ (.int .i64 d.st)).setCell ⟨pb, 2, none⟩ (.slice B5 d.L.length b5)).setCell ⟨pb, 3, none⟩ (.slice B6 d.U.length b6)).setCell ⟨pb, 4, none⟩ (.int .u64 (d.last : Nat))) := ⟨_, rfl⟩
      rw [← hy1] at HN ⊢
      clear hy1  r0 r1 r2 r3 r4 r5 r6 r7 k0 k1 k2 k3 k4 f0 f1 f2 f3 f4
      have hmb := HN.out.2.2.1
      go_wp2_with (refine wpList_range_w _ rfl _ rfl _ _ _ rfl hmb ?_)
      obtain ⟨pi, hpi⟩ : ∃ z, z = y1.heap.size := ⟨_, rfl⟩
      have HPI : Hid (y1.heap.size ≤ pi) := Lib.hid (by omega)
      have hit0 : (y1.alloc (.mapIter (some pm) clock #[] clock)).heap[pi]? = some (.mapIter (some pm) clock #[] clock) := by rw [hpi]; exact heap_alloc_new _ _
      have HI0 := Lib.hid hit0
      have HQ0 : Hid (Q y1 (y1.alloc (.mapIter (some pm) clock #[] clock))) := Lib.hid ((Q.refl _).alloc _)
      obtain ⟨y2, hy2⟩ : ∃ z, z = (y1.alloc (.mapIter (some pm) clock #[] clock)) := ⟨_, rfl⟩
      rw [← hpi]
      rw [← hy2] at HI0 HQ0 ⊢
      (try simp only [Act.put, List.setIfInBounds_toArray, List.set_cons_zero, List.set_cons_succ])
      clear hpi hy2 hit0 hmb
      go_loopw [12, 13, 14, 15] (fun _ _ _ _ wr2 => ∃ (seen : Array Nat) (c0 : Nat), wr2.heap[pi]? = some (.mapIter (some pm) clock seen c0) ∧ clock ≤ c0 ∧ Q y1 wr2) (fun _ _ _ _ wr2 => leftW wr2 pi es)
      case atStart => exact ⟨#[], clock, HI0.out, Nat.le_refl _, HQ0.out⟩
      case round =>
        obtain ⟨seen, c0, hit, hc0, qr⟩ := hrel
        clear HI0 HQ0
        have hmr := (Below.block qr pm (lt_of_block HN.out.2.2.1)).trans HN.out.2.2.1
        have hold : ∀ e ∈ (es).toList, e.born < clock := fun e he => (HN.out.1.2.2.1 e he).1
        by_cases hleft : (leftOf es seen).size = 0
        · have HN2 := Lib.hid (HN.out.on qr)
          go_wp2_with (refine wpList_next_w _ rfl _ rfl _ _ _ _ _ _ _ rfl hit hmr hold hc0 (fun _ => ?_) (fun e he => (leftW_empty hleft he).elim))
          go_roundw
          case rel => exact ⟨i + 1, d, es, clock, by omega, by omega, by go_num, HN2⟩
          case measure => simp [intOf]; omega
        · go_upto_region 21 with (first
            | (refine wpList_next_w _ rfl _ rfl _ _ _ _ _ _ _ rfl hit hmr hold hc0 (fun h => absurd h hleft) ?_; intro en hen w5 hw5; have hmem := (mem_left hen).1; obtain ⟨-, ek, x', hk', hv', hek, hxi, hfx⟩ := HN.out.1.2.2.1 en hmem; have q5 := (iterW_q qr hw5).setBlock (b := pi) HPI.out (.mapIter (some pm) clock (seen.push en.born) clock); have hit5 := iterW_set (o' := .mapIter (some pm) clock (seen.push en.born) clock) (iterW_at hit hw5); have hmr5 := (Below.block q5 pm (lt_of_block HN.out.2.2.1)).trans HN.out.2.2.1; rw [hk', hv', whV, ver])
            | (refine wpList_entry_w _ rfl _ rfl _ _ _ _ _ _ en rfl hit5 hmr5 hmem HN.out.1.2.2.2 ?_; rw [hk', hv', whV, ver]))
          obtain ⟨ws, hws⟩ : ∃ z, z = Go.ChangeMaps.setBlock w5 pi (.mapIter (some pm) clock (seen.push en.born) clock) := ⟨_, rfl⟩
          rw [← hws] at q5 hit5 ⊢
          clear hws hmr5 hmr hw5
          have q6 := q5.alloc (.cells #[.string ek, .int .u64 (x'.id : Nat)] 52) |>.alloc (.cells #[.int .u64 (x'.id : Nat), .string x'.data, .bool x'.mark, .int .i64 x'.tm] 49)
          have BW := Lib.hid ((Bx.new ws 52 #[.string ek, .int .u64 (x'.id : Nat)]).alloc (.cells #[.int .u64 (x'.id : Nat), .string x'.data, .bool x'.mark, .int .i64 x'.tm] 49))
          have BV0 := Bx.new (ws.alloc (.cells #[.string ek, .int .u64 (x'.id : Nat)] 52)) 49 #[.int .u64 (x'.id : Nat), .string x'.data, .bool x'.mark, .int .i64 x'.tm]
          simp only [World.size_alloc] at BV0
          have BV := Lib.hid BV0
          have HIT := Lib.hid ((Below.block (((Q.refl ws).alloc (.cells #[.string ek, .int .u64 (x'.id : Nat)] 52)).alloc (.cells #[.int .u64 (x'.id : Nat), .string x'.data, .bool x'.mark, .int .i64 x'.tm] 49)) _ (lt_of_block hit5)).trans hit5)
          have Q6 := Lib.hid q6
          clear q6 q5 hit5 BV0
          obtain ⟨ps, hps⟩ : ∃ z, z = ws.heap.size := ⟨_, rfl⟩
          obtain ⟨w7, hw7⟩ : ∃ z, z = ((ws.alloc (.cells #[.string ek, .int .u64 (x'.id : Nat)] 52)).alloc (.cells #[.int .u64 (x'.id : Nat), .string x'.data, .bool x'.mark, .int .i64 x'.tm] 49)) := ⟨_, rfl⟩
          rw [← hw7] at BW BV HIT Q6 ⊢
          rw [← hps] at BW BV ⊢
          clear hw7 hps
          obtain ⟨g1, g2, g3, g4, hbb, hvv⟩ := HN.out.2.1.on Q6.out
          obtain ⟨k0, k1, k2, k3, k4⟩ := bx_bkt hbb
          obtain ⟨v0, v1⟩ := bx_wh BW.out
          obtain ⟨ze, hFI⟩ := findW_off HN.out.1.1 hek hvv hfx
          simp only [bkt] at hFI
          have FI := Lib.hid hFI
          clear hFI hbb hvv
          go_wp2_with fail
          refine (FI.out).mono ?_
          rintro e w8 ⟨rfl, q8⟩
          clear FI k0 k1 k2 k3 k4 v0 v1
          go_upto_region 22 with fail
          have q9 := q8.alloc (.cells #[.int .u64 (x'.id : Nat), .string x'.data, .bool x'.mark, .int .i64 x'.tm] 49)
          have hit9 := (Below.block q9 _ (lt_of_block HIT.out)).trans HIT.out
          have Q9 := Q6.out.trans q9
          obtain ⟨⟨a0, a1, a2, a3⟩, -⟩ := bx_ver (BV.out.on q9)
          obtain ⟨⟨c0', c1', c2', c3'⟩, -⟩ := bx_ver (Bx.new w8 49 #[.int .u64 (x'.id : Nat), .string x'.data, .bool x'.mark, .int .i64 x'.tm])
          clear q8 q9 HIT Q6 BW BV
          go_wp2
          go_roundw
          case rel => exact ⟨seen.push en.born, clock, hit9, Nat.le_refl _, Q9⟩
          case measure => simp only [leftW, hit9, hit]; exact left_shrinks _ _ _ hen
    have h9 : X.kind % 9 < 3 := by omega
    have hk3 : kx.tmod 9 < 3 := by rw [TX.out]; omega
    obtain ⟨okd, std, kpd, hlaid⟩ := KEEP.out
    obtain ⟨hn1, ht1, hlast, hky, hfnd, hdat⟩ := hlaid rfl h9
    obtain rfl : j = n := by have := HJ.out; omega
    have HL1 := Lib.hid (And.intro okd (And.intro std (HL0.out.2.2.kept kpd)))
    have FR := Lib.hid (HL0.out.2.2.fresh HL0.out.1.2.2.1 (i := j) (by omega))
    have HKY := Lib.hid hky
    have HJL := Lib.hid hn1
    have hjtop : j < 18446744073709551616 := by have := okd.2.2.1; omega
    clear KEEP HJ HL0 okd std kpd hlaid hn1 ht1 hlast hky
    by_cases h2 : X.kind % 9 = 2
    · have p2 : (kx.tmod 9 == 2) = true := by rw [TX.out, h2]; rfl
      have HFN : Hid (findV (getE d.L X.key) j = some ⟨j, ⟨#[]⟩, true, X.tm⟩) := Lib.hid (by rw [h2] at hfnd; exact hfnd)
      clear hfnd hdat h2 h9
      obtain ⟨B5, b5, B6, b6, hdb, -⟩ := HD.out
      obtain ⟨⟨r0, r1, r2, r3, r4, r5, r6, r7⟩, -⟩ := bx_did hdb
      obtain ⟨A4, c4, hab, -⟩ := HA.out
      obtain ⟨⟨m0, m1, m2, m3, m4, m5, m6⟩, -⟩ := bx_act hab
      clear hdb hab
      go_upto_region 14 with fail
      have VB := Lib.hid (Bx.new x7 49 #[.int .u64 (j : Nat), .string X.data, .bool false, .int .i64 X.tm])
      have QV : Hid (Q x7 (x7.alloc (.cells #[.int .u64 (j : Nat), .string X.data, .bool false, .int .i64 X.tm] 49))) := Lib.hid ((Q.refl x7).alloc _)
      obtain ⟨x8, hx8⟩ : ∃ z, z = x7.alloc (.cells #[.int .u64 (j : Nat), .string X.data, .bool false, .int .i64 X.tm] 49) := ⟨_, rfl⟩
      rw [← hx8] at VB QV ⊢
      obtain ⟨pv, hpv⟩ : ∃ z, z = x7.heap.size := ⟨_, rfl⟩
      have HPV : Hid (x7.heap.size ≤ pv) := Lib.hid (by omega)
      rw [← hpv] at VB ⊢
      clear hx8 hpv hk3 r0 r1 r2 r3 r4 r5 r6 r7 m0 m1 m2 m3 m4 m5 m6
      obtain ⟨⟨a0, a1, a2, a3⟩, f0, f1, f2, f3⟩ := bx_ver VB.out
      have VB2 : Hid (Bx ((x8.setCell ⟨pv, 1, none⟩ (.string ⟨#[]⟩)).setCell ⟨pv, 2, none⟩ (.bool true)) pv 49 #[.int .u64 (j : Nat), .string ⟨#[]⟩, .bool true, .int .i64 X.tm]) := Lib.hid ((VB.out.set 1 (.string ⟨#[]⟩)).set 2 (.bool true))
      have QV2 : Hid (Q x7 ((x8.setCell ⟨pv, 1, none⟩ (.string ⟨#[]⟩)).setCell ⟨pv, 2, none⟩ (.bool true))) := Lib.hid ((QV.out.set HPV.out _).set HPV.out _)
      go_upto_region 16 with fail
      obtain ⟨x9, hx9⟩ : ∃ z, z = ((x8.setCell ⟨pv, 1, none⟩ (.string ⟨#[]⟩)).setCell ⟨pv, 2, none⟩ (.bool true)) := ⟨_, rfl⟩
      rw [← hx9] at VB2 QV2 ⊢
      clear hx9 VB QV a0 a1 a2 a3 f0 f1 f2 f3 p2
      have VB := VB2
      have QV := QV2
      clear VB2 QV2
      have ONE : Hid (∀ x, Calls Tryz.prog 20 #[.agg #[.int .u64 (j : Nat), .string ⟨#[]⟩, .bool true, .int .i64 X.tm]] x fun e w' => e = .returned (.agg #[.int .u64 (j : Nat), .string ⟨#[]⟩, .bool true, .int .i64 X.tm]) ∧ Q x w') := Lib.hid fun x => by
        have h := one_any ⟨j, ⟨#[]⟩, true, X.tm⟩ x ⟨by show j < _; omega, by show (0 : Nat) ≤ _; omega, by show _ ≤ X.tm; exact HX.out.1.2.2.2.2.2.1.1, by show X.tm ≤ _; exact HX.out.1.2.2.2.2.2.1.2⟩
        rw [oneV_small (by show (0 : Nat) ≤ 2001; omega)] at h
        exact h
      have FACT : Hid (∀ y, Q x9 y → y.cell? ⟨pa, 1, none⟩ = some (.string X.key) ∧ y.cell? ⟨pd, 5, none⟩ = some (.int .u64 (j : Nat)) ∧ y.cell? ⟨pv, 0, none⟩ = some (.int .u64 (j : Nat)) ∧ y.cell? ⟨pv, 1, none⟩ = some (.string ⟨#[]⟩) ∧ y.cell? ⟨pv, 2, none⟩ = some (.bool true) ∧ y.cell? ⟨pv, 3, none⟩ = some (.int .i64 X.tm)) := Lib.hid fun y q => by
        obtain ⟨A7, c7, A8, c8, hdb, -⟩ := (HD.out.on QV.out).on q
        obtain ⟨⟨-, -, -, -, -, r5, -, -⟩, -⟩ := bx_did hdb
        obtain ⟨A4, c4, hab, -⟩ := (HA.out.on QV.out).on q
        obtain ⟨⟨-, m1, -, -, -, -, -⟩, -⟩ := bx_act hab
        obtain ⟨⟨v0, v1, v2, v3⟩, -⟩ := bx_ver (VB.out.on q)
        exact ⟨m1, r5, v0, v1, v2, v3⟩
      have NEW : Hid (∀ y, Q x9 y → ∃ es2 cl2, ((Instr.mapUpdate 47 (.map (some pm)) (.agg #[.string X.key, .int .u64 (j : Nat)]) (.agg #[.int .u64 (j : Nat), .string ⟨#[]⟩, .bool true, .int .i64 X.tm])).run Tryz.prog y = .ok () (Go.ChangeMaps.setBlock y pm (.map es2 cl2))) ∧ (okB d ∧ d.st = 1 ∧ LaidW d es2 cl2) ∧ BoxD (Go.ChangeMaps.setBlock y pm (.map es2 cl2)) pd d j s 0 ∧ BoxB (Go.ChangeMaps.setBlock y pm (.map es2 cl2)) pb b ∧ (Go.ChangeMaps.setBlock y pm (.map es2 cl2)).heap[pm]? = some (.map es2 cl2) ∧ Q w (Go.ChangeMaps.setBlock y pm (.map es2 cl2)) ∧ pb ≠ pm ∧ w.heap.size ≤ pb ∧ w.heap.size ≤ pm) := Lib.hid fun y q => by
        have hm := (Below.block (QV.out.trans q) _ (lt_of_block HR.out.2.1)).trans HR.out.2.1
        have ce := map_cells hm (.map (es.push ⟨whV X.key j, .agg #[.int .u64 (j : Nat), .string ⟨#[]⟩, .bool true, .int .i64 X.tm], clock⟩) (clock + 1))
        have gk := map_kp y pm (.map (es.push ⟨whV X.key j, .agg #[.int .u64 (j : Nat), .string ⟨#[]⟩, .bool true, .int .i64 X.tm], clock⟩) (clock + 1))
        refine ⟨es.push ⟨whV X.key j, .agg #[.int .u64 (j : Nat), .string ⟨#[]⟩, .bool true, .int .i64 X.tm], clock⟩, clock + 1, ?_, ⟨HL1.out.1, HL1.out.2.1, LaidW.push (x := ⟨j, ⟨#[]⟩, true, X.tm⟩) HL1.out.2.2 HKY.out (by show j ≤ _; rw [HJL.out]; exact Nat.le_refl _) HFN.out⟩, ((HD.out.on QV.out).on q).sameU ce gk (Ne.symm ND.out.2.1), ((HR.out.1.on QV.out).on q).sameU ce gk HR.out.2.2.2.1, iterW_set hm, gk.q (HR.out.2.2.1.trans (QV.out.trans q)) HR.out.2.2.2.2.2, HR.out.2.2.2⟩
        exact run_insert_w y pm es clock X.key j _ (by have := key_le HKY.out; unfold maxLen; omega) (by omega) hm FR.out
      refine till_begin (F := (fun y => Q x9 y)) (st := 8) (by kernel_rfl) ((Q.refl x9).drew) (fun hTill => ?_)
      refine till_pure (i := 0) (o := _) (v := ?_) rfl (by kernel_rfl) (by kernel_rfl) (by kernel_rfl) (by decide) (fun _ _ _ h => h) (Or.inl ⟨by rfl, ?_⟩) (by first | (intro _; assumption) | (intro e; exact absurd e (by decide))) ?_
      rotate_left
      · (intro wx hSw; go_simp; (try with_reducible rfl))
      (try simp only [Act.put, PS])
      refine till_pure (i := 1) (o := _) (v := ?_) rfl (by kernel_rfl) (by kernel_rfl) (by kernel_rfl) (by decide) (fun _ _ _ h => h) (Or.inl ⟨by rfl, ?_⟩) (by first | (intro _; assumption) | (intro e; exact absurd e (by decide))) ?_
      rotate_left
      · (intro wx hSw; go_simp; (try with_reducible rfl))
      (try simp only [Act.put, PS])
      refine till_takeR (i := 2) (o := _) (v := ?_) rfl (by kernel_rfl) (by kernel_rfl) (by kernel_rfl) (by kernel_rfl) (by kernel_rfl) (by rfl) (fun _ _ _ h => h) (Or.inl ⟨by rfl, ?_⟩) (by assumption) ?_
      rotate_left
      · (intro wx hSw; obtain ⟨v1, v5, z0, z1, z2, z3⟩ := FACT.out _ hSw; go_simp; (try with_reducible rfl))
      (try simp only [Act.put, PS])
      refine till_pure (i := 3) (o := _) (v := ?_) rfl (by kernel_rfl) (by kernel_rfl) (by kernel_rfl) (by decide) (fun _ _ _ h => h) (Or.inl ⟨by rfl, ?_⟩) (by first | (intro _; assumption) | (intro e; exact absurd e (by decide))) ?_
      rotate_left
      · (intro wx hSw; go_simp; (try with_reducible rfl))
      (try simp only [Act.put, PS])
      refine till_takeR (i := 4) (o := _) (v := ?_) rfl (by kernel_rfl) (by kernel_rfl) (by kernel_rfl) (by kernel_rfl) (by kernel_rfl) (by rfl) (fun _ _ _ h => h) (Or.inl ⟨by rfl, ?_⟩) (by assumption) ?_
      rotate_left
      · (intro wx hSw; obtain ⟨v1, v5, z0, z1, z2, z3⟩ := FACT.out _ hSw; go_simp; (try with_reducible rfl))
      (try simp only [Act.put, PS])
      refine till_pure (i := 5) (o := _) (v := ?_) rfl (by kernel_rfl) (by kernel_rfl) (by kernel_rfl) (by decide) (fun _ _ _ h => h) (Or.inl ⟨by rfl, ?_⟩) (by first | (intro _; assumption) | (intro e; exact absurd e (by decide))) ?_
      rotate_left
      · (intro wx hSw; go_simp; (try with_reducible rfl))
      (try simp only [Act.put, PS])
      refine till_takeR (i := 6) (o := _) (v := ?_) rfl (by kernel_rfl) (by kernel_rfl) (by kernel_rfl) (by kernel_rfl) (by kernel_rfl) (by rfl) (fun _ _ _ h => h) (Or.inl ⟨by rfl, ?_⟩) (by assumption) ?_
      rotate_left
      · (intro wx hSw; obtain ⟨v1, v5, z0, z1, z2, z3⟩ := FACT.out _ hSw; go_simp; (try with_reducible rfl))
      (try simp only [Act.put, PS])
      refine till_next (i := 7) (o := _) (by kernel_rfl) rfl (fun K hK => ?_)
      go_simp
      go_at_call 20
      refine (ONE.out _).mono ?_
      rintro e wc ⟨rfl, qc⟩
      refine hK.out _ _ ((Q.refl x9).drew.trans qc) (fun hTill => ?_)
      clear hK K
      (try simp only [Act.put, PS])
      obtain ⟨es2, cl2, hrun, hn1, hn2, hn3⟩ := NEW.out _ ((Q.refl x9).drew.trans qc)
      refine till_last (i := 8) (o := _) (by kernel_rfl) rfl (by rfl) (fun K hK => ?_)
      rw [if_pos (by rfl)]
      unfold Oper.wp
      simp [execOp, Act.eval, PS, hrun, Result.andThen]
      refine hK.out _ _ ?_
      clear hK K hrun
      (try simp only [Act.put, PS])
      refine till_done (by kernel_rfl) ?_ _
      have HL : Hid (okB d ∧ d.st = 1 ∧ LaidW d es2 cl2) := Lib.hid hn1
      have HDN := Lib.hid hn2
      have HRN := Lib.hid hn3
      clear hn1 hn2 hn3 HD HR HA FACT NEW ONE VB QV HPV qc
      obtain ⟨y0, hy0⟩ : ∃ z, z = Go.ChangeMaps.setBlock wc pm (.map es2 cl2) := ⟨_, rfl⟩
      rw [← hy0] at HDN HRN ⊢
      have HD := HDN
      have HR := HRN
      clear hy0 HDN HRN
      obtain ⟨B5, b5, B6, b6, hdb, hdv⟩ := HD.out
      obtain ⟨⟨r0, r1, r2, r3, r4, r5, r6, r7⟩, -⟩ := bx_did hdb
      obtain ⟨B7, b7, B8, b8, hbb, hbv⟩ := HR.out.1
      obtain ⟨k0, k1, k2, k3, k4⟩ := bx_bkt hbb
      obtain ⟨f0, f1, f2, f3, f4⟩ := bkt_frozen hbb
      obtain ⟨nB, gB⟩ := HR.out.1.store hdv
      have HN : Hid (Keep w _ pb pm d es2 cl2) := Lib.hid ⟨HL.out, nB, (gB.block _ (lt_of_block HR.out.2.1) (fun e => HR.out.2.2.2.1 (by injection e with e; exact e.symm))).trans HR.out.2.1, gB.q HR.out.2.2.1 HR.out.2.2.2.2.1, HR.out.2.2.2⟩
      clear nB gB hdb hdv hbb hbv HR HD HL
      go_upto_region 18 with fail
      obtain ⟨y1, hy1⟩ : ∃ z, z = (((((y0.setCell ⟨pb, 0, none⟩ (.string d.name)).setCell ⟨pb, 1, none⟩ (.int .i64 d.st)).setCell ⟨pb, 2, none⟩ (.slice B5 d.L.length b5)).setCell ⟨pb, 3, none⟩ (.slice B6 d.U.length b6)).setCell ⟨pb, 4, none⟩ (.int .u64 (d.last : Nat))) := ⟨_, rfl⟩
      rw [← hy1] at HN ⊢
      clear hy1  r0 r1 r2 r3 r4 r5 r6 r7 k0 k1 k2 k3 k4 f0 f1 f2 f3 f4
      have hmb := HN.out.2.2.1
      go_wp2_with (refine wpList_range_w _ rfl _ rfl _ _ _ rfl hmb ?_)
      obtain ⟨pi, hpi⟩ : ∃ z, z = y1.heap.size := ⟨_, rfl⟩
      have HPI : Hid (y1.heap.size ≤ pi) := Lib.hid (by omega)
      have hit0 : (y1.alloc (.mapIter (some pm) cl2 #[] cl2)).heap[pi]? = some (.mapIter (some pm) cl2 #[] cl2) := by rw [hpi]; exact heap_alloc_new _ _
      have HI0 := Lib.hid hit0
      have HQ0 : Hid (Q y1 (y1.alloc (.mapIter (some pm) cl2 #[] cl2))) := Lib.hid ((Q.refl _).alloc _)
      obtain ⟨y2, hy2⟩ : ∃ z, z = (y1.alloc (.mapIter (some pm) cl2 #[] cl2)) := ⟨_, rfl⟩
      rw [← hpi]
      rw [← hy2] at HI0 HQ0 ⊢
      (try simp only [Act.put, List.setIfInBounds_toArray, List.set_cons_zero, List.set_cons_succ])
      clear hpi hy2 hit0 hmb
      go_loopw [12, 13, 14, 15] (fun _ _ _ _ wr2 => ∃ (seen : Array Nat) (c0 : Nat), wr2.heap[pi]? = some (.mapIter (some pm) cl2 seen c0) ∧ cl2 ≤ c0 ∧ Q y1 wr2) (fun _ _ _ _ wr2 => leftW wr2 pi es2)
      case atStart => exact ⟨#[], cl2, HI0.out, Nat.le_refl _, HQ0.out⟩
      case round =>
        obtain ⟨seen, c0, hit, hc0, qr⟩ := hrel
        clear HI0 HQ0
        have hmr := (Below.block qr pm (lt_of_block HN.out.2.2.1)).trans HN.out.2.2.1
        have hold : ∀ e ∈ (es2).toList, e.born < cl2 := fun e he => (HN.out.1.2.2.1 e he).1
        by_cases hleft : (leftOf es2 seen).size = 0
        · have HN2 := Lib.hid (HN.out.on qr)
          go_wp2_with (refine wpList_next_w _ rfl _ rfl _ _ _ _ _ _ _ rfl hit hmr hold hc0 (fun _ => ?_) (fun e he => (leftW_empty hleft he).elim))
          go_roundw
          case rel => exact ⟨i + 1, d, es2, cl2, by omega, by omega, by go_num, HN2⟩
          case measure => simp [intOf]; omega
        · go_upto_region 21 with (first
            | (refine wpList_next_w _ rfl _ rfl _ _ _ _ _ _ _ rfl hit hmr hold hc0 (fun h => absurd h hleft) ?_; intro en hen w5 hw5; have hmem := (mem_left hen).1; obtain ⟨-, ek, x', hk', hv', hek, hxi, hfx⟩ := HN.out.1.2.2.1 en hmem; have q5 := (iterW_q qr hw5).setBlock (b := pi) HPI.out (.mapIter (some pm) cl2 (seen.push en.born) cl2); have hit5 := iterW_set (o' := .mapIter (some pm) cl2 (seen.push en.born) cl2) (iterW_at hit hw5); have hmr5 := (Below.block q5 pm (lt_of_block HN.out.2.2.1)).trans HN.out.2.2.1; rw [hk', hv', whV, ver])
            | (refine wpList_entry_w _ rfl _ rfl _ _ _ _ _ _ en rfl hit5 hmr5 hmem HN.out.1.2.2.2 ?_; rw [hk', hv', whV, ver]))
          obtain ⟨ws, hws⟩ : ∃ z, z = Go.ChangeMaps.setBlock w5 pi (.mapIter (some pm) cl2 (seen.push en.born) cl2) := ⟨_, rfl⟩
          rw [← hws] at q5 hit5 ⊢
          clear hws hmr5 hmr hw5
          have q6 := q5.alloc (.cells #[.string ek, .int .u64 (x'.id : Nat)] 52) |>.alloc (.cells #[.int .u64 (x'.id : Nat), .string x'.data, .bool x'.mark, .int .i64 x'.tm] 49)
          have BW := Lib.hid ((Bx.new ws 52 #[.string ek, .int .u64 (x'.id : Nat)]).alloc (.cells #[.int .u64 (x'.id : Nat), .string x'.data, .bool x'.mark, .int .i64 x'.tm] 49))
          have BV0 := Bx.new (ws.alloc (.cells #[.string ek, .int .u64 (x'.id : Nat)] 52)) 49 #[.int .u64 (x'.id : Nat), .string x'.data, .bool x'.mark, .int .i64 x'.tm]
          simp only [World.size_alloc] at BV0
          have BV := Lib.hid BV0
          have HIT := Lib.hid ((Below.block (((Q.refl ws).alloc (.cells #[.string ek, .int .u64 (x'.id : Nat)] 52)).alloc (.cells #[.int .u64 (x'.id : Nat), .string x'.data, .bool x'.mark, .int .i64 x'.tm] 49)) _ (lt_of_block hit5)).trans hit5)
          have Q6 := Lib.hid q6
          clear q6 q5 hit5 BV0
          obtain ⟨ps, hps⟩ : ∃ z, z = ws.heap.size := ⟨_, rfl⟩
          obtain ⟨w7, hw7⟩ : ∃ z, z = ((ws.alloc (.cells #[.string ek, .int .u64 (x'.id : Nat)] 52)).alloc (.cells #[.int .u64 (x'.id : Nat), .string x'.data, .bool x'.mark, .int .i64 x'.tm] 49)) := ⟨_, rfl⟩
          rw [← hw7] at BW BV HIT Q6 ⊢
          rw [← hps] at BW BV ⊢
          clear hw7 hps
          obtain ⟨g1, g2, g3, g4, hbb, hvv⟩ := HN.out.2.1.on Q6.out
          obtain ⟨k0, k1, k2, k3, k4⟩ := bx_bkt hbb
          obtain ⟨v0, v1⟩ := bx_wh BW.out
          obtain ⟨ze, hFI⟩ := findW_off HN.out.1.1 hek hvv hfx
          simp only [bkt] at hFI
          have FI := Lib.hid hFI
          clear hFI hbb hvv
          go_wp2_with fail
          refine (FI.out).mono ?_
          rintro e w8 ⟨rfl, q8⟩
          clear FI k0 k1 k2 k3 k4 v0 v1
          go_upto_region 22 with fail
          have q9 := q8.alloc (.cells #[.int .u64 (x'.id : Nat), .string x'.data, .bool x'.mark, .int .i64 x'.tm] 49)
          have hit9 := (Below.block q9 _ (lt_of_block HIT.out)).trans HIT.out
          have Q9 := Q6.out.trans q9
          obtain ⟨⟨a0, a1, a2, a3⟩, -⟩ := bx_ver (BV.out.on q9)
          obtain ⟨⟨c0', c1', c2', c3'⟩, -⟩ := bx_ver (Bx.new w8 49 #[.int .u64 (x'.id : Nat), .string x'.data, .bool x'.mark, .int .i64 x'.tm])
          clear q8 q9 HIT Q6 BW BV
          go_wp2
          go_roundw
          case rel => exact ⟨seen.push en.born, cl2, hit9, Nat.le_refl _, Q9⟩
          case measure => simp only [leftW, hit9, hit]; exact left_shrinks _ _ _ hen
    · have p2 : (kx.tmod 9 == 2) = false := by rw [TX.out]; simp; omega
      have HFN : Hid (findV (getE d.L X.key) j = some ⟨j, X.data, false, X.tm⟩) := Lib.hid (by rw [if_neg h2, decide_eq_false h2] at hfnd; exact hfnd)
      have hds := hdat h2
      clear hfnd hdat h2 h9
      obtain ⟨B5, b5, B6, b6, hdb, -⟩ := HD.out
      obtain ⟨⟨r0, r1, r2, r3, r4, r5, r6, r7⟩, -⟩ := bx_did hdb
      obtain ⟨A4, c4, hab, -⟩ := HA.out
      obtain ⟨⟨m0, m1, m2, m3, m4, m5, m6⟩, -⟩ := bx_act hab
      clear hdb hab
      go_upto_region 14 with fail
      have VB := Lib.hid (Bx.new x7 49 #[.int .u64 (j : Nat), .string X.data, .bool false, .int .i64 X.tm])
      have QV : Hid (Q x7 (x7.alloc (.cells #[.int .u64 (j : Nat), .string X.data, .bool false, .int .i64 X.tm] 49))) := Lib.hid ((Q.refl x7).alloc _)
      obtain ⟨x8, hx8⟩ : ∃ z, z = x7.alloc (.cells #[.int .u64 (j : Nat), .string X.data, .bool false, .int .i64 X.tm] 49) := ⟨_, rfl⟩
      rw [← hx8] at VB QV ⊢
      obtain ⟨pv, hpv⟩ : ∃ z, z = x7.heap.size := ⟨_, rfl⟩
      have HPV : Hid (x7.heap.size ≤ pv) := Lib.hid (by omega)
      rw [← hpv] at VB ⊢
      clear hx8 hpv hk3 r0 r1 r2 r3 r4 r5 r6 r7 m0 m1 m2 m3 m4 m5 m6
      have hds9 := hds
      have ONE : Hid (∀ x, Calls Tryz.prog 20 #[.agg #[.int .u64 (j : Nat), .string X.data, .bool false, .int .i64 X.tm]] x fun e w' => e = .returned (.agg #[.int .u64 (j : Nat), .string X.data, .bool false, .int .i64 X.tm]) ∧ Q x w') := Lib.hid fun x => by
        have h := one_any ⟨j, X.data, false, X.tm⟩ x ⟨by show j < _; omega, by show X.data.size ≤ _; unfold maxLen; omega, by show _ ≤ X.tm; exact HX.out.1.2.2.2.2.2.1.1, by show X.tm ≤ _; exact HX.out.1.2.2.2.2.2.1.2⟩
        rw [oneV_small (by show X.data.size ≤ 2001; omega)] at h
        exact h
      clear hds9 hds
      go_upto_region 16 with fail
      obtain ⟨x9, hx9⟩ : ∃ z, z = x8 := ⟨_, rfl⟩
      rw [← hx9] at VB QV ⊢
      clear hx9 p2
      have FACT : Hid (∀ y, Q x9 y → y.cell? ⟨pa, 1, none⟩ = some (.string X.key) ∧ y.cell? ⟨pd, 5, none⟩ = some (.int .u64 (j : Nat)) ∧ y.cell? ⟨pv, 0, none⟩ = some (.int .u64 (j : Nat)) ∧ y.cell? ⟨pv, 1, none⟩ = some (.string X.data) ∧ y.cell? ⟨pv, 2, none⟩ = some (.bool false) ∧ y.cell? ⟨pv, 3, none⟩ = some (.int .i64 X.tm)) := Lib.hid fun y q => by
        obtain ⟨A7, c7, A8, c8, hdb, -⟩ := (HD.out.on QV.out).on q
        obtain ⟨⟨-, -, -, -, -, r5, -, -⟩, -⟩ := bx_did hdb
        obtain ⟨A4, c4, hab, -⟩ := (HA.out.on QV.out).on q
        obtain ⟨⟨-, m1, -, -, -, -, -⟩, -⟩ := bx_act hab
        obtain ⟨⟨v0, v1, v2, v3⟩, -⟩ := bx_ver (VB.out.on q)
        exact ⟨m1, r5, v0, v1, v2, v3⟩
      have NEW : Hid (∀ y, Q x9 y → ∃ es2 cl2, ((Instr.mapUpdate 47 (.map (some pm)) (.agg #[.string X.key, .int .u64 (j : Nat)]) (.agg #[.int .u64 (j : Nat), .string X.data, .bool false, .int .i64 X.tm])).run Tryz.prog y = .ok () (Go.ChangeMaps.setBlock y pm (.map es2 cl2))) ∧ (okB d ∧ d.st = 1 ∧ LaidW d es2 cl2) ∧ BoxD (Go.ChangeMaps.setBlock y pm (.map es2 cl2)) pd d j s 0 ∧ BoxB (Go.ChangeMaps.setBlock y pm (.map es2 cl2)) pb b ∧ (Go.ChangeMaps.setBlock y pm (.map es2 cl2)).heap[pm]? = some (.map es2 cl2) ∧ Q w (Go.ChangeMaps.setBlock y pm (.map es2 cl2)) ∧ pb ≠ pm ∧ w.heap.size ≤ pb ∧ w.heap.size ≤ pm) := Lib.hid fun y q => by
        have hm := (Below.block (QV.out.trans q) _ (lt_of_block HR.out.2.1)).trans HR.out.2.1
        have ce := map_cells hm (.map (es.push ⟨whV X.key j, .agg #[.int .u64 (j : Nat), .string X.data, .bool false, .int .i64 X.tm], clock⟩) (clock + 1))
        have gk := map_kp y pm (.map (es.push ⟨whV X.key j, .agg #[.int .u64 (j : Nat), .string X.data, .bool false, .int .i64 X.tm], clock⟩) (clock + 1))
        refine ⟨es.push ⟨whV X.key j, .agg #[.int .u64 (j : Nat), .string X.data, .bool false, .int .i64 X.tm], clock⟩, clock + 1, ?_, ⟨HL1.out.1, HL1.out.2.1, LaidW.push (x := ⟨j, X.data, false, X.tm⟩) HL1.out.2.2 HKY.out (by show j ≤ _; rw [HJL.out]; exact Nat.le_refl _) HFN.out⟩, ((HD.out.on QV.out).on q).sameU ce gk (Ne.symm ND.out.2.1), ((HR.out.1.on QV.out).on q).sameU ce gk HR.out.2.2.2.1, iterW_set hm, gk.q (HR.out.2.2.1.trans (QV.out.trans q)) HR.out.2.2.2.2.2, HR.out.2.2.2⟩
        exact run_insert_w y pm es clock X.key j _ (by have := key_le HKY.out; unfold maxLen; omega) (by omega) hm FR.out
      refine till_begin (F := (fun y => Q x9 y)) (st := 8) (by kernel_rfl) ((Q.refl x9).drew) (fun hTill => ?_)
      refine till_pure (i := 0) (o := _) (v := ?_) rfl (by kernel_rfl) (by kernel_rfl) (by kernel_rfl) (by decide) (fun _ _ _ h => h) (Or.inl ⟨by rfl, ?_⟩) (by first | (intro _; assumption) | (intro e; exact absurd e (by decide))) ?_
      rotate_left
      · (intro wx hSw; go_simp; (try with_reducible rfl))
      (try simp only [Act.put, PS])
      refine till_pure (i := 1) (o := _) (v := ?_) rfl (by kernel_rfl) (by kernel_rfl) (by kernel_rfl) (by decide) (fun _ _ _ h => h) (Or.inl ⟨by rfl, ?_⟩) (by first | (intro _; assumption) | (intro e; exact absurd e (by decide))) ?_
      rotate_left
      · (intro wx hSw; go_simp; (try with_reducible rfl))
      (try simp only [Act.put, PS])
      refine till_takeR (i := 2) (o := _) (v := ?_) rfl (by kernel_rfl) (by kernel_rfl) (by kernel_rfl) (by kernel_rfl) (by kernel_rfl) (by rfl) (fun _ _ _ h => h) (Or.inl ⟨by rfl, ?_⟩) (by assumption) ?_
      rotate_left
      · (intro wx hSw; obtain ⟨v1, v5, z0, z1, z2, z3⟩ := FACT.out _ hSw; go_simp; (try with_reducible rfl))
      (try simp only [Act.put, PS])
      refine till_pure (i := 3) (o := _) (v := ?_) rfl (by kernel_rfl) (by kernel_rfl) (by kernel_rfl) (by decide) (fun _ _ _ h => h) (Or.inl ⟨by rfl, ?_⟩) (by first | (intro _; assumption) | (intro e; exact absurd e (by decide))) ?_
      rotate_left
      · (intro wx hSw; go_simp; (try with_reducible rfl))
      (try simp only [Act.put, PS])
      refine till_takeR (i := 4) (o := _) (v := ?_) rfl (by kernel_rfl) (by kernel_rfl) (by kernel_rfl) (by kernel_rfl) (by kernel_rfl) (by rfl) (fun _ _ _ h => h) (Or.inl ⟨by rfl, ?_⟩) (by assumption) ?_
      rotate_left
      · (intro wx hSw; obtain ⟨v1, v5, z0, z1, z2, z3⟩ := FACT.out _ hSw; go_simp; (try with_reducible rfl))
      (try simp only [Act.put, PS])
      refine till_pure (i := 5) (o := _) (v := ?_) rfl (by kernel_rfl) (by kernel_rfl) (by kernel_rfl) (by decide) (fun _ _ _ h => h) (Or.inl ⟨by rfl, ?_⟩) (by first | (intro _; assumption) | (intro e; exact absurd e (by decide))) ?_
      rotate_left
      · (intro wx hSw; go_simp; (try with_reducible rfl))
      (try simp only [Act.put, PS])
      refine till_takeR (i := 6) (o := _) (v := ?_) rfl (by kernel_rfl) (by kernel_rfl) (by kernel_rfl) (by kernel_rfl) (by kernel_rfl) (by rfl) (fun _ _ _ h => h) (Or.inl ⟨by rfl, ?_⟩) (by assumption) ?_
      rotate_left
      · (intro wx hSw; obtain ⟨v1, v5, z0, z1, z2, z3⟩ := FACT.out _ hSw; go_simp; (try with_reducible rfl))
      (try simp only [Act.put, PS])
      refine till_next (i := 7) (o := _) (by kernel_rfl) rfl (fun K hK => ?_)
      go_simp
      go_at_call 20
      refine (ONE.out _).mono ?_
      rintro e wc ⟨rfl, qc⟩
      refine hK.out _ _ ((Q.refl x9).drew.trans qc) (fun hTill => ?_)
      clear hK K
      (try simp only [Act.put, PS])
      obtain ⟨es2, cl2, hrun, hn1, hn2, hn3⟩ := NEW.out _ ((Q.refl x9).drew.trans qc)
      refine till_last (i := 8) (o := _) (by kernel_rfl) rfl (by rfl) (fun K hK => ?_)
      rw [if_pos (by rfl)]
      unfold Oper.wp
      simp [execOp, Act.eval, PS, hrun, Result.andThen]
      refine hK.out _ _ ?_
      clear hK K hrun
      (try simp only [Act.put, PS])
      refine till_done (by kernel_rfl) ?_ _
      have HL : Hid (okB d ∧ d.st = 1 ∧ LaidW d es2 cl2) := Lib.hid hn1
      have HDN := Lib.hid hn2
      have HRN := Lib.hid hn3
      clear hn1 hn2 hn3 HD HR HA FACT NEW ONE VB QV HPV qc
      obtain ⟨y0, hy0⟩ : ∃ z, z = Go.ChangeMaps.setBlock wc pm (.map es2 cl2) := ⟨_, rfl⟩
      rw [← hy0] at HDN HRN ⊢
      have HD := HDN
      have HR := HRN
      clear hy0 HDN HRN
      obtain ⟨B5, b5, B6, b6, hdb, hdv⟩ := HD.out
      obtain ⟨⟨r0, r1, r2, r3, r4, r5, r6, r7⟩, -⟩ := bx_did hdb
      obtain ⟨B7, b7, B8, b8, hbb, hbv⟩ := HR.out.1
      obtain ⟨k0, k1, k2, k3, k4⟩ := bx_bkt hbb
      obtain ⟨f0, f1, f2, f3, f4⟩ := bkt_frozen hbb
      obtain ⟨nB, gB⟩ := HR.out.1.store hdv
      have HN : Hid (Keep w _ pb pm d es2 cl2) := Lib.hid ⟨HL.out, nB, (gB.block _ (lt_of_block HR.out.2.1) (fun e => HR.out.2.2.2.1 (by injection e with e; exact e.symm))).trans HR.out.2.1, gB.q HR.out.2.2.1 HR.out.2.2.2.2.1, HR.out.2.2.2⟩
      clear nB gB hdb hdv hbb hbv HR HD HL
      go_upto_region 18 with fail
      obtain ⟨y1, hy1⟩ : ∃ z, z = (((((y0.setCell ⟨pb, 0, none⟩ (.string d.name)).setCell ⟨pb, 1, none⟩ (.int .i64 d.st)).setCell ⟨pb, 2, none⟩ (.slice B5 d.L.length b5)).setCell ⟨pb, 3, none⟩ (.slice B6 d.U.length b6)).setCell ⟨pb, 4, none⟩ (.int .u64 (d.last : Nat))) := ⟨_, rfl⟩
      rw [← hy1] at HN ⊢
      clear hy1  r0 r1 r2 r3 r4 r5 r6 r7 k0 k1 k2 k3 k4 f0 f1 f2 f3 f4
      have hmb := HN.out.2.2.1
      go_wp2_with (refine wpList_range_w _ rfl _ rfl _ _ _ rfl hmb ?_)
      obtain ⟨pi, hpi⟩ : ∃ z, z = y1.heap.size := ⟨_, rfl⟩
      have HPI : Hid (y1.heap.size ≤ pi) := Lib.hid (by omega)
      have hit0 : (y1.alloc (.mapIter (some pm) cl2 #[] cl2)).heap[pi]? = some (.mapIter (some pm) cl2 #[] cl2) := by rw [hpi]; exact heap_alloc_new _ _
      have HI0 := Lib.hid hit0
      have HQ0 : Hid (Q y1 (y1.alloc (.mapIter (some pm) cl2 #[] cl2))) := Lib.hid ((Q.refl _).alloc _)
      obtain ⟨y2, hy2⟩ : ∃ z, z = (y1.alloc (.mapIter (some pm) cl2 #[] cl2)) := ⟨_, rfl⟩
      rw [← hpi]
      rw [← hy2] at HI0 HQ0 ⊢
      (try simp only [Act.put, List.setIfInBounds_toArray, List.set_cons_zero, List.set_cons_succ])
      clear hpi hy2 hit0 hmb
      go_loopw [12, 13, 14, 15] (fun _ _ _ _ wr2 => ∃ (seen : Array Nat) (c0 : Nat), wr2.heap[pi]? = some (.mapIter (some pm) cl2 seen c0) ∧ cl2 ≤ c0 ∧ Q y1 wr2) (fun _ _ _ _ wr2 => leftW wr2 pi es2)
      case atStart => exact ⟨#[], cl2, HI0.out, Nat.le_refl _, HQ0.out⟩
      case round =>
        obtain ⟨seen, c0, hit, hc0, qr⟩ := hrel
        clear HI0 HQ0
        have hmr := (Below.block qr pm (lt_of_block HN.out.2.2.1)).trans HN.out.2.2.1
        have hold : ∀ e ∈ (es2).toList, e.born < cl2 := fun e he => (HN.out.1.2.2.1 e he).1
        by_cases hleft : (leftOf es2 seen).size = 0
        · have HN2 := Lib.hid (HN.out.on qr)
          go_wp2_with (refine wpList_next_w _ rfl _ rfl _ _ _ _ _ _ _ rfl hit hmr hold hc0 (fun _ => ?_) (fun e he => (leftW_empty hleft he).elim))
          go_roundw
          case rel => exact ⟨i + 1, d, es2, cl2, by omega, by omega, by go_num, HN2⟩
          case measure => simp [intOf]; omega
        · go_upto_region 21 with (first
            | (refine wpList_next_w _ rfl _ rfl _ _ _ _ _ _ _ rfl hit hmr hold hc0 (fun h => absurd h hleft) ?_; intro en hen w5 hw5; have hmem := (mem_left hen).1; obtain ⟨-, ek, x', hk', hv', hek, hxi, hfx⟩ := HN.out.1.2.2.1 en hmem; have q5 := (iterW_q qr hw5).setBlock (b := pi) HPI.out (.mapIter (some pm) cl2 (seen.push en.born) cl2); have hit5 := iterW_set (o' := .mapIter (some pm) cl2 (seen.push en.born) cl2) (iterW_at hit hw5); have hmr5 := (Below.block q5 pm (lt_of_block HN.out.2.2.1)).trans HN.out.2.2.1; rw [hk', hv', whV, ver])
            | (refine wpList_entry_w _ rfl _ rfl _ _ _ _ _ _ en rfl hit5 hmr5 hmem HN.out.1.2.2.2 ?_; rw [hk', hv', whV, ver]))
          obtain ⟨ws, hws⟩ : ∃ z, z = Go.ChangeMaps.setBlock w5 pi (.mapIter (some pm) cl2 (seen.push en.born) cl2) := ⟨_, rfl⟩
          rw [← hws] at q5 hit5 ⊢
          clear hws hmr5 hmr hw5
          have q6 := q5.alloc (.cells #[.string ek, .int .u64 (x'.id : Nat)] 52) |>.alloc (.cells #[.int .u64 (x'.id : Nat), .string x'.data, .bool x'.mark, .int .i64 x'.tm] 49)
          have BW := Lib.hid ((Bx.new ws 52 #[.string ek, .int .u64 (x'.id : Nat)]).alloc (.cells #[.int .u64 (x'.id : Nat), .string x'.data, .bool x'.mark, .int .i64 x'.tm] 49))
          have BV0 := Bx.new (ws.alloc (.cells #[.string ek, .int .u64 (x'.id : Nat)] 52)) 49 #[.int .u64 (x'.id : Nat), .string x'.data, .bool x'.mark, .int .i64 x'.tm]
          simp only [World.size_alloc] at BV0
          have BV := Lib.hid BV0
          have HIT := Lib.hid ((Below.block (((Q.refl ws).alloc (.cells #[.string ek, .int .u64 (x'.id : Nat)] 52)).alloc (.cells #[.int .u64 (x'.id : Nat), .string x'.data, .bool x'.mark, .int .i64 x'.tm] 49)) _ (lt_of_block hit5)).trans hit5)
          have Q6 := Lib.hid q6
          clear q6 q5 hit5 BV0
          obtain ⟨ps, hps⟩ : ∃ z, z = ws.heap.size := ⟨_, rfl⟩
          obtain ⟨w7, hw7⟩ : ∃ z, z = ((ws.alloc (.cells #[.string ek, .int .u64 (x'.id : Nat)] 52)).alloc (.cells #[.int .u64 (x'.id : Nat), .string x'.data, .bool x'.mark, .int .i64 x'.tm] 49)) := ⟨_, rfl⟩
          rw [← hw7] at BW BV HIT Q6 ⊢
          rw [← hps] at BW BV ⊢
          clear hw7 hps
          obtain ⟨g1, g2, g3, g4, hbb, hvv⟩ := HN.out.2.1.on Q6.out
          obtain ⟨k0, k1, k2, k3, k4⟩ := bx_bkt hbb
          obtain ⟨v0, v1⟩ := bx_wh BW.out
          obtain ⟨ze, hFI⟩ := findW_off HN.out.1.1 hek hvv hfx
          simp only [bkt] at hFI
          have FI := Lib.hid hFI
          clear hFI hbb hvv
          go_wp2_with fail
          refine (FI.out).mono ?_
          rintro e w8 ⟨rfl, q8⟩
          clear FI k0 k1 k2 k3 k4 v0 v1
          go_upto_region 22 with fail
          have q9 := q8.alloc (.cells #[.int .u64 (x'.id : Nat), .string x'.data, .bool x'.mark, .int .i64 x'.tm] 49)
          have hit9 := (Below.block q9 _ (lt_of_block HIT.out)).trans HIT.out
          have Q9 := Q6.out.trans q9
          obtain ⟨⟨a0, a1, a2, a3⟩, -⟩ := bx_ver (BV.out.on q9)
          obtain ⟨⟨c0', c1', c2', c3'⟩, -⟩ := bx_ver (Bx.new w8 49 #[.int .u64 (x'.id : Nat), .string x'.data, .bool x'.mark, .int .i64 x'.tm])
          clear q8 q9 HIT Q6 BW BV
          go_wp2
          go_roundw
          case rel => exact ⟨seen.push en.born, cl2, hit9, Nat.le_refl _, Q9⟩
          case measure => simp only [leftW, hit9, hit]; exact left_shrinks _ _ _ hen

set_option maxRecDepth 100000 in
theorem lifted (os : Os) (started : os.Started) (H : Type) (enc : TypeId × Value → H) :
    ReturnsInHanded {} Tryz.checked os 5 .any (Rows.bucketKeepsSpec.pre6 enc Tryz.prog Tryz.f5 Rows.bucketKeepsRow.domain false) (Rows.bucketKeepsSpec.post enc Tryz.prog Tryz.f5 false true false false) := by
  refine returnsInHanded_of_change (C := Tryz.checked) own started (by kernel_rfl) Tryz.func5
    (ChangeSpec.witness6 (enc := enc) (C := Tryz.checked) false ⟨#[], #[.agg #[.string ByteArray.empty, .int .i64 0, .slice none 0 0, .slice none 0 0, .int .u64 0], .slice none 0 0], []⟩ 8 (by kernel_rfl) (by kernel_rfl) (by kernel_rfl) (by kernel_rfl)) ?_
  intro W base args ds gs before hval0 hW hcnd _
  have hval : ∀ (j : Nat) t v, Tryz.f5.params[j]? = some t → args[j]? = some v → Value.okWide Tryz.prog W .any base t v := hval0
  have hW' := hW
  obtain ⟨p, q, hA0, hV, rfl, hfz, hnd⟩ := hW
  have hA : DataW.TrodAll enc Tryz.prog W 0 (fun _ => true) true Tryz.f5.params.toList args.toList ds p := hA0
  rw [Tryz.params5] at hA hval
  obtain ⟨v0, vs0, d0, ds0, p0, q0, hargs, rfl, rfl, h0, r0⟩ := trodAll_cons hA
  obtain ⟨v1, vs1, d1, ds1, p1, q1, rfl, rfl, rfl, h1, r1⟩ := trodAll_cons r0
  obtain ⟨rfl, rfl, rfl⟩ := trodAll_nil r1
  obtain rfl : args = #[v0, v1] := by cases args; simp_all
  obtain ⟨rfl, rfl⟩ := trodVars_none hV
  clear hA0 hval0
  simp only [List.append_nil] at hW'
  have hlt : ∀ x ∈ p0 ++ p1, x.block < W.heap.size := fun x hx => by simpa using hW'.lt x (by simpa using hx)
  obtain ⟨b0, lv0, uv0, rfl, t0⟩ := open_bkt (hval 0 26 v0 rfl rfl) h0
  obtain ⟨l1, t1, z1⟩ := open_acts (hval 1 41 v1 rfl rfl) h1
  refine (walk b0 lv0 uv0 l1 v1 W t0 t1 z1).mono fun e W' ⟨he, bel⟩ => ?_
  subst he
  refine ⟨_, rfl, _, _, _, [], _, [], hW', trodAll_mk1 (shut_bool Tryz.underlying4 _), (trodAll_cons_mk (Below.trod laid (by kernel_rfl) (of_decide_eq_true (by kernel_rfl)) h0 bel (fun x hx => hlt x (by simp [hx]))) (trodAll_cons_mk (Below.trod laid (by kernel_rfl) (of_decide_eq_true (by kernel_rfl)) h1 bel (fun x hx => hlt x (by simp [hx]))) trodAll_mk0)), rfl, Below.frame bel _, fun h => by cases h⟩

theorem over : Rows.bucketKeepsRow.holds Tryz.pinned (OpenSpec.ofChange Rows.bucketKeepsSpec) :=
  OpenClaim.holds_of_wide 5 Tryz.f5 rfl rfl rfl rfl rfl rfl rfl ⟨rfl, rfl, rfl, rfl, rfl⟩ rfl rfl rfl rfl rfl (by kernel_rfl) Tryz.func5 (by kernel_rfl)
    (of_decide_eq_true (by kernel_rfl)) (by unfold Func.isWrapper; first | (rw [if_pos (by decide +kernel)]; kernel_rfl) | (rw [if_neg (by decide +kernel)]; exact ⟨rfl, rfl⟩))
    (fun os started H enc _ => lifted os started H enc)

theorem proved : Rows.BucketKeepsSaid := over
#print axioms proved
end Go.Proofs.YtjjlbbfhmpbneaaGreat.bucketKeeps
