/-
  Proved: whatever device and act ZoneApart is called with, it returns true and leaves what it was given as it was. No condition.
-/
import Derived.Test.YteoondmakdghhaaNm
namespace Go.Proofs.Yteoondmakdghhaa.zoneApart
set_option maxRecDepth 100000
open Go.ChangeShapes Go.WideShapes Go.ChangeAt Go.RowKit
open Go.ChangeMaps (open_string shut_string)
set_option linter.unusedVariables false
set_option linter.unusedSimpArgs false

set_option maxHeartbeats 16000000 in
set_option maxRecDepth 100000 in
theorem walk (d : Dv) (u : Value) (a : Ac) (w : World) (t0 : Zns w w.heap.size u d.zs) (y0 : okD d) (y1 : okA a) :
    Calls Try.prog 8 #[dvV d u, acV a] w fun e w' => e = .returned (.bool true) ∧ Q w w' := by
  obtain ⟨A0, c0, eu⟩ := t0.form
  obtain ⟨n0, hn0⟩ : ∃ n, n = d.zs.length := ⟨_, rfl⟩
  rw [← hn0] at eu
  subst eu
  clear hn0
  have F1 := Lib.hid (fun (x : World) (q : Q w x) => fewD_any d (.slice A0 n0 c0) x y0.1 (t0.on q))
  have SM := fewD_sm d
  have NF : okN (fewDv d) := ⟨y0.2.2.2.1, y0.2.2.2.2⟩
  have HFS : Hid ((fewDv d).size = d.size ∧ (fewDv d).mo = d.mo ∧ (fewDv d).fuel = d.fuel ∧ (fewDv d).off = d.off ∧ (fewDv d).bad = d.bad) := Lib.hid ⟨rfl, rfl, rfl, rfl, rfl⟩
  obtain ⟨F, hF⟩ : ∃ F, F = fewDv d := ⟨_, rfl⟩
  rw [← hF] at F1 SM HFS NF
  have D1 := Lib.hid (fun (x : World) (v : Value) (h : Zns x x.heap.size v F.zs) => do_any F v a x SM NF y1 h)
  clear NF
  have HO := Lib.hid (fun (h : (actD F a).2 ≠ 1) (k : a.kind % 5 ≠ 4) => act_others h k)
  obtain ⟨kind, zone, many, c⟩ := a
  obtain ⟨zs, ds, dm, df, do_, db⟩ := d
  obtain ⟨fz, size, mo, fuel, off, bad⟩ := F
  obtain ⟨rfl, rfl, rfl, rfl, rfl⟩ := HFS.out
  clear hF t0 y0
  obtain ⟨r, hr⟩ : ∃ r, r = actD ⟨fz, size, mo, fuel, off, bad⟩ ⟨kind, zone, many, c⟩ := ⟨_, rfl⟩
  rw [← hr] at D1 HO
  clear hr
  obtain ⟨⟨xz, xs, xm, xf, xo, xb⟩, e9⟩ := r
  unfold DevC at D1
  rw [dvV, acV]
  simp only [dvV, acV] at F1 D1 HO SM ⊢
  have bd := (Bx.new w 24 #[.slice A0 n0 c0, .int .i64 size, .int .i64 mo, .int .i64 fuel, .bool off, .int .i64 bad]).alloc (.cells #[.int .u8 (kind : Nat), .int .u8 (zone : Nat), .int .u8 (many : Nat), .int .u8 (c : Nat)] 50)
  have ba := Bx.new (w.alloc (.cells #[.slice A0 n0 c0, .int .i64 size, .int .i64 mo, .int .i64 fuel, .bool off, .int .i64 bad] 24)) 50 #[.int .u8 (kind : Nat), .int .u8 (zone : Nat), .int .u8 (many : Nat), .int .u8 (c : Nat)]
  have q0 := ((Q.refl w).alloc (.cells #[.slice A0 n0 c0, .int .i64 size, .int .i64 mo, .int .i64 fuel, .bool off, .int .i64 bad] 24)).alloc (.cells #[.int .u8 (kind : Nat), .int .u8 (zone : Nat), .int .u8 (many : Nat), .int .u8 (c : Nat)] 50)
  rw [World.size_alloc] at ba
  obtain ⟨W0, hW0⟩ : ∃ z, z = (w.alloc (.cells #[.slice A0 n0 c0, .int .i64 size, .int .i64 mo, .int .i64 fuel, .bool off, .int .i64 bad] 24)).alloc (.cells #[.int .u8 (kind : Nat), .int .u8 (zone : Nat), .int .u8 (many : Nat), .int .u8 (c : Nat)] 50) := ⟨_, rfl⟩
  rw [← hW0] at bd ba q0
  have Q0 := Lib.hid q0
  have BD := Lib.hid bd
  have BA := Lib.hid ba
  obtain ⟨x0, x1, x2, x3, x4, x5⟩ : W0.cell? ⟨w.heap.size, 0, none⟩ = some (.slice A0 n0 c0) ∧ W0.cell? ⟨w.heap.size, 1, none⟩ = some (.int .i64 size) ∧ W0.cell? ⟨w.heap.size, 2, none⟩ = some (.int .i64 mo) ∧ W0.cell? ⟨w.heap.size, 3, none⟩ = some (.int .i64 fuel) ∧ W0.cell? ⟨w.heap.size, 4, none⟩ = some (.bool off) ∧ W0.cell? ⟨w.heap.size, 5, none⟩ = some (.int .i64 bad) := ⟨bd.cell 0, bd.cell 1, bd.cell 2, bd.cell 3, bd.cell 4, bd.cell 5⟩
  clear bd ba q0
  go_enter Try.func8, Try.ntmps8
  go_upto_region 1 with fail
  rw [← hW0]
  clear hW0
  go_wp2_with fail
  refine (F1.out _ Q0.out).mono ?_
  rintro e w1 ⟨v9, rfl, hz9, d1⟩
  obtain ⟨A9, c9, e10⟩ := hz9.form
  obtain ⟨n1, hn1⟩ : ∃ n, n = fz.length := ⟨_, rfl⟩
  rw [← hn1] at e10
  subst e10
  have b1 := BD.out.on d1
  have ba1 := BA.out.on d1
  have q1 := Q0.out.trans d1
  have g0 := b1.frozen 0
  have g1 := b1.frozen 1
  have g2 := b1.frozen 2
  have g3 := b1.frozen 3
  have g4 := b1.frozen 4
  have g5 := b1.frozen 5
  obtain ⟨z0, z1, z2, z3, z4, z5⟩ : w1.cell? ⟨w.heap.size, 0, none⟩ = some (.slice A0 n0 c0) ∧ w1.cell? ⟨w.heap.size, 1, none⟩ = some (.int .i64 size) ∧ w1.cell? ⟨w.heap.size, 2, none⟩ = some (.int .i64 mo) ∧ w1.cell? ⟨w.heap.size, 3, none⟩ = some (.int .i64 fuel) ∧ w1.cell? ⟨w.heap.size, 4, none⟩ = some (.bool off) ∧ w1.cell? ⟨w.heap.size, 5, none⟩ = some (.int .i64 bad) := ⟨b1.cell 0, b1.cell 1, b1.cell 2, b1.cell 3, b1.cell 4, b1.cell 5⟩
  have b2 := ((((((b1.set 0 (.slice A9 n1 c9)).set 1 (.int .i64 size)).set 2 (.int .i64 mo)).set 3 (.int .i64 fuel)).set 4 (.bool off)).set 5 (.int .i64 bad))
  have ba2 := ((((((ba1.other (B2 := w.heap.size) (by omega) 0 (.slice A9 n1 c9)).other (B2 := w.heap.size) (by omega) 1 (.int .i64 size)).other (B2 := w.heap.size) (by omega) 2 (.int .i64 mo)).other (B2 := w.heap.size) (by omega) 3 (.int .i64 fuel)).other (B2 := w.heap.size) (by omega) 4 (.bool off)).other (B2 := w.heap.size) (by omega) 5 (.int .i64 bad))
  have q2 : Q w ((((((w1.setCell ⟨w.heap.size, 0, none⟩ (.slice A9 n1 c9)).setCell ⟨w.heap.size, 1, none⟩ (.int .i64 size)).setCell ⟨w.heap.size, 2, none⟩ (.int .i64 mo)).setCell ⟨w.heap.size, 3, none⟩ (.int .i64 fuel)).setCell ⟨w.heap.size, 4, none⟩ (.bool off)).setCell ⟨w.heap.size, 5, none⟩ (.int .i64 bad)) := (Q.set (Q.set (Q.set (Q.set (Q.set (Q.set q1 (Nat.le_refl _) _) (Nat.le_refl _) _) (Nat.le_refl _) _) (Nat.le_refl _) _) (Nat.le_refl _) _) (Nat.le_refl _) _)
  have hkk : ∀ j, j ≠ w.heap.size → (((((((w1.setCell ⟨w.heap.size, 0, none⟩ (.slice A9 n1 c9)).setCell ⟨w.heap.size, 1, none⟩ (.int .i64 size)).setCell ⟨w.heap.size, 2, none⟩ (.int .i64 mo)).setCell ⟨w.heap.size, 3, none⟩ (.int .i64 fuel)).setCell ⟨w.heap.size, 4, none⟩ (.bool off)).setCell ⟨w.heap.size, 5, none⟩ (.int .i64 bad))).heap[j]? = w1.heap[j]? := fun j hj => (heap_set _ _ _ _ hj).trans ( (heap_set _ _ _ _ hj).trans ( (heap_set _ _ _ _ hj).trans ( (heap_set _ _ _ _ hj).trans ( (heap_set _ _ _ _ hj).trans (heap_set _ _ _ _ hj)))))
  have hzz := Zns.off hz9 b1 hkk (by simp)
  clear hkk
  obtain ⟨w2, hw2⟩ : ∃ z, z = ((((((w1.setCell ⟨w.heap.size, 0, none⟩ (.slice A9 n1 c9)).setCell ⟨w.heap.size, 1, none⟩ (.int .i64 size)).setCell ⟨w.heap.size, 2, none⟩ (.int .i64 mo)).setCell ⟨w.heap.size, 3, none⟩ (.int .i64 fuel)).setCell ⟨w.heap.size, 4, none⟩ (.bool off)).setCell ⟨w.heap.size, 5, none⟩ (.int .i64 bad)) := ⟨_, rfl⟩
  rw [← hw2] at b2 ba2 q2 hzz
  simp only [List.setIfInBounds_toArray, List.set_cons_zero, List.set_cons_succ] at b2
  have B2 := Lib.hid b2
  have BA2 := Lib.hid ba2
  have Q2 := Lib.hid q2
  have Z2 := Lib.hid hzz
  have HN1 := Lib.hid hn1
  clear q1 ba1 b1 d1 hz9 hn1 x0 x1 x2 x3 x4 x5
  go_upto_region 2 with fail
  rw [← hw2]
  clear hw2 g0 g1 g2 g3 g4 g5 z0 z1 z2 z3 z4 z5
  obtain ⟨x0, x1, x2, x3, x4, x5⟩ : w2.cell? ⟨w.heap.size, 0, none⟩ = some (.slice A9 n1 c9) ∧ w2.cell? ⟨w.heap.size, 1, none⟩ = some (.int .i64 size) ∧ w2.cell? ⟨w.heap.size, 2, none⟩ = some (.int .i64 mo) ∧ w2.cell? ⟨w.heap.size, 3, none⟩ = some (.int .i64 fuel) ∧ w2.cell? ⟨w.heap.size, 4, none⟩ = some (.bool off) ∧ w2.cell? ⟨w.heap.size, 5, none⟩ = some (.int .i64 bad) := ⟨b2.cell 0, b2.cell 1, b2.cell 2, b2.cell 3, b2.cell 4, b2.cell 5⟩
  obtain ⟨y0, y1, y2, y3⟩ : w2.cell? ⟨w.heap.size + 1, 0, none⟩ = some (.int .u8 (kind : Nat)) ∧ w2.cell? ⟨w.heap.size + 1, 1, none⟩ = some (.int .u8 (zone : Nat)) ∧ w2.cell? ⟨w.heap.size + 1, 2, none⟩ = some (.int .u8 (many : Nat)) ∧ w2.cell? ⟨w.heap.size + 1, 3, none⟩ = some (.int .u8 (c : Nat)) := ⟨ba2.cell 0, ba2.cell 1, ba2.cell 2, ba2.cell 3⟩
  clear b2 ba2 q2 hzz
  go_wp2_with fail
  refine (D1.out _ _ Z2.out).mono ?_
  rintro e w3 ⟨v8, rfl, hz8, d3⟩
  obtain ⟨A8, c8, e8⟩ := hz8.form
  obtain ⟨n2, hn2⟩ : ∃ n, n = xz.length := ⟨_, rfl⟩
  rw [← hn2] at e8
  subst e8
  have b4 := Bx.new w3 24 #[.slice A8 n2 c8, .int .i64 xs, .int .i64 xm, .int .i64 xf, .bool xo, .int .i64 xb]
  have q4 := d3.alloc (.cells #[.slice A8 n2 c8, .int .i64 xs, .int .i64 xm, .int .i64 xf, .bool xo, .int .i64 xb] 24)
  have HZ8 := hz8.on ((Q.refl w3).alloc (.cells #[.slice A8 n2 c8, .int .i64 xs, .int .i64 xm, .int .i64 xf, .bool xo, .int .i64 xb] 24))
  obtain ⟨w4, hw4⟩ : ∃ z, z = w3.alloc (.cells #[.slice A8 n2 c8, .int .i64 xs, .int .i64 xm, .int .i64 xf, .bool xo, .int .i64 xb] 24) := ⟨_, rfl⟩
  rw [← hw4] at b4 q4 HZ8
  have B4 := Lib.hid b4
  have B2 := Lib.hid (B2.out.on q4)
  have BA2 := Lib.hid (BA2.out.on q4)
  have Z4 := Lib.hid (Z2.out.on q4)
  have X4 := Lib.hid HZ8
  have Q4 := Lib.hid (Q2.out.trans q4)
  have HN2 := Lib.hid hn2
  clear b4 q4 HZ8 Z2 Q2 hz8 d3 hn2 D1 F1 x0 x1 x2 x3 x4 x5 y0 y1 y2 y3
  go_upto_region 3 with fail
  rw [← hw4]
  clear hw4
  obtain ⟨y0, y1⟩ : w4.cell? ⟨w.heap.size + 1, 0, none⟩ = some (.int .u8 (kind : Nat)) ∧ w4.cell? ⟨w.heap.size + 1, 1, none⟩ = some (.int .u8 (zone : Nat)) := ⟨BA2.out.cell 0, BA2.out.cell 1⟩
  by_cases h1 : e9 = 1
  · have h1' : ((e9 : Int) == 1) = true := by rw [h1]; rfl
    clear HO h1
    go_wp2_with fail
    refine (awake13_any _).mono ?_
    rintro e wz ⟨rfl, qz⟩
    go_wp2_with fail
    go_ret
    exact ⟨rfl, Q4.out.trans qz⟩
  have h1' : ((e9 : Int) == 1) = false := beq_false_of_ne (by omega)
  obtain ⟨k, hk⟩ : ∃ k, k = kind % 5 := ⟨_, rfl⟩
  have hki : (kind : Int) % 5 = (k : Int) := by omega
  by_cases hk4 : k = 4
  · have h2' : ((k : Int) == 4) = true := by rw [hk4]; rfl
    clear HO h1 hk hk4
    go_wp2_with fail
    refine (awake13_any _).mono ?_
    rintro e wz ⟨rfl, qz⟩
    go_wp2_with fail
    go_ret
    exact ⟨rfl, Q4.out.trans qz⟩
  have h2' : ((k : Int) == 4) = false := beq_false_of_ne (by omega)
  obtain ⟨hol, hoz⟩ := HO.out h1 (by first | omega | (simp only; omega))
  simp only at hol hoz
  have hnn : n2 = n1 := by rw [HN1.out, HN2.out, hol]
  subst hnn
  obtain ⟨z, hz⟩ : ∃ z, z = zone % 5 := ⟨_, rfl⟩
  have hzi : (zone : Int) % 5 = (z : Int) := by omega
  have hzl : z < 5 := by omega
  rw [← hz] at hoz
  have HOZ := Lib.hid hoz
  have HSM := Lib.hid SM
  clear HO h1 hk hk4 hol hoz hz SM
  obtain ⟨x0, m0⟩ : w4.cell? ⟨w.heap.size, 0, none⟩ = some (.slice A9 n2 c9) ∧ w4.cell? ⟨w3.heap.size, 0, none⟩ = some (.slice A8 n2 c8) := ⟨B2.out.cell 0, B4.out.cell 0⟩
  have hnl : n2 ≤ 100000 := by have := HSM.out.1; simp only at this; have := HN1.out; omega
  go_wp2_with fail
  clear x0 m0 y0 y1 hki
  go_loopw [7] (fun I wr => ∃ i : Nat, i ≤ n2 ∧ I = .int .i64 i ∧ Q w4 wr) (fun I _ => n2 - (intOf I).toNat)
  case atStart => exact ⟨0, Nat.zero_le _, rfl, Q.refl _⟩
  case round =>
    obtain ⟨i, hil, rfl, q⟩ := hrel
    have b0 : wr.cell? ⟨w.heap.size, 0, none⟩ = some (.slice A9 n2 c9) := (B2.out.on q).cell 0
    by_cases hlt : i < n2
    · have hilt : (i : Int) < (n2 : Int) := by omega
      obtain ⟨a, ca, A1, m1, e1, ha, hok, hat⟩ := Z4.out.pick i (by rw [← HN1.out]; exact hlt)
      injection e1 with e1 e2 e3
      subst e1 e3
      clear e2
      obtain ⟨b, cb, B1, m2, e4, hb, -, hbt⟩ := X4.out.pick i (by rw [← HN2.out]; exact hlt)
      injection e4 with e4 e5 e6
      subst e4 e6
      clear e5
      have hyl := HSM.out.2 _ (List.getElem_mem (by rw [← HN1.out]; exact hlt : i < fz.length))
      have HEQ : Hid ((i : Int) ≠ (z : Int) → xz[i]'(by rw [← HN2.out]; exact hlt) = fz[i]'(by rw [← HN1.out]; exact hlt)) := Lib.hid (fun h => by
        have := HOZ.out i h
        rw [List.getElem?_eq_getElem (by rw [← HN2.out]; exact hlt), List.getElem?_eq_getElem (by rw [← HN1.out]; exact hlt)] at this
        injection this)
      obtain ⟨y, hy⟩ : ∃ y, y = fz[i]'(by rw [← HN1.out]; exact hlt) := ⟨_, rfl⟩
      obtain ⟨y2, hy2⟩ : ∃ y, y = xz[i]'(by rw [← HN2.out]; exact hlt) := ⟨_, rfl⟩
      rw [← hy] at hat hyl HEQ
      rw [← hy2] at hbt HEQ
      have KS : Hid (∀ x, Q wr x → (fun W => W.cell? ⟨w.heap.size, 0, none⟩ = some (.slice (some a) n2 c9) ∧ W.cell? ⟨w3.heap.size, 0, none⟩ = some (.slice (some b) n2 c8) ∧ W.cell? (a.add (i * 3)) = some (.slice A1 y.b.length m1) ∧ W.cell? ⟨(a.add (i * 3)).block, (a.add (i * 3)).off + 1, none⟩ = some (.int .i64 y.firm) ∧ W.cell? ⟨(a.add (i * 3)).block, (a.add (i * 3)).off + 2, none⟩ = some (.bool y.full) ∧ W.cell? (b.add (i * 3)) = some (.slice B1 y2.b.length m2) ∧ W.cell? ⟨(b.add (i * 3)).block, (b.add (i * 3)).off + 1, none⟩ = some (.int .i64 y2.firm) ∧ W.cell? ⟨(b.add (i * 3)).block, (b.add (i * 3)).off + 2, none⟩ = some (.bool y2.full)) x) := Lib.hid (fun x qx => ⟨(B2.out.on (q.trans qx)).cell 0, (B4.out.on (q.trans qx)).cell 0, (hat x (q.trans qx)).1, (hat x (q.trans qx)).2.1, (hat x (q.trans qx)).2.2.1, (hbt x (q.trans qx)).1, (hbt x (q.trans qx)).2.1, (hbt x (q.trans qx)).2.2.1⟩)
      have HB1 : Hid (∀ x, Q wr x → Txts x x.heap.size (.slice A1 y.b.length m1) y.b) := Lib.hid (fun x qx => (hat x (q.trans qx)).2.2.2.txts)
      have HB2 : Hid (∀ x, Q wr x → Txts x x.heap.size (.slice B1 y2.b.length m2) y2.b) := Lib.hid (fun x qx => (hbt x (q.trans qx)).2.2.2.txts)
      clear hat hbt hy hy2 hok
      have QW := Lib.hid q
      clear q
      go_upto_region 10 with fail
      go_cut [8, 9] from 41 to 50 (fun V8 V9 wx => ∃ p6 p7, V8 = .pointer (some ⟨p6, 0, none⟩) ∧ V9 = .pointer (some ⟨p7, 0, none⟩) ∧ Bx wx p6 45 #[.slice A1 y.b.length m1, .int .i64 y.firm, .bool y.full] ∧ Bx wx p7 45 #[.slice B1 y2.b.length m2, .int .i64 y2.firm, .bool y2.full] ∧ Q wr wx)
      case first =>
        have q1 := (Q.refl wr).drew
        refine wp_region_held_drew (S := (fun W => W.cell? ⟨w.heap.size, 0, none⟩ = some (.slice (some a) n2 c9) ∧ W.cell? ⟨w3.heap.size, 0, none⟩ = some (.slice (some b) n2 c8) ∧ W.cell? (a.add (i * 3)) = some (.slice A1 y.b.length m1) ∧ W.cell? ⟨(a.add (i * 3)).block, (a.add (i * 3)).off + 1, none⟩ = some (.int .i64 y.firm) ∧ W.cell? ⟨(a.add (i * 3)).block, (a.add (i * 3)).off + 2, none⟩ = some (.bool y.full) ∧ W.cell? (b.add (i * 3)) = some (.slice B1 y2.b.length m2) ∧ W.cell? ⟨(b.add (i * 3)).block, (b.add (i * 3)).off + 1, none⟩ = some (.int .i64 y2.firm) ∧ W.cell? ⟨(b.add (i * 3)).block, (b.add (i * 3)).off + 2, none⟩ = some (.bool y2.full))) (by kernel_rfl) (KS.out _ q1) (fun hHeld => ?_)
        refine tkV 0 ?_
        refine tkV 1 ?_
        refine tkV 2 ?_
        refine tkV 3 ?_
        refine tkV 4 ?_
        refine tkV 5 ?_
        refine tkV 6 ?_
        refine tkV 7 ?_
        refine tkV 8 ?_
        refine tkV 9 ?_
        refine aR [10, 11] ?_
        refine AllReadyH.cons (o := _) rfl (fun K hK => ?_) (AllReadyH.cons (o := _) rfl (fun K hK => ?_) AllReadyH.nil)
        · go_simp
          refine hK.out _ _ (KS.out _ (q1.alloc _)) (fun hHeld2 => ?_)
          clear hK K
          refine pg ?_
          refine aR [11] ?_
          refine AllReadyH.cons (o := _) rfl (fun K hK => ?_) AllReadyH.nil
          go_simp
          refine hK.out _ _ (KS.out _ ((q1.alloc _).alloc _)) (fun hHeld3 => ?_)
          clear hK K
          refine pg ?_
          have nn1 := ((Bx.new wr 45 #[.slice none 0 0, .int .i64 0, .bool false]).alloc (.cells #[.slice none 0 0, .int .i64 0, .bool false] 45)).on ((Q.refl _).drew)
          have nn2 := (Bx.new (wr.alloc (.cells #[.slice none 0 0, .int .i64 0, .bool false] 45)) 45 #[.slice none 0 0, .int .i64 0, .bool false]).on ((Q.refl _).drew)
          rw [World.size_alloc] at nn2
          have qA := (((Q.refl wr).alloc (.cells #[.slice none 0 0, .int .i64 0, .bool false] 45)).alloc (.cells #[.slice none 0 0, .int .i64 0, .bool false] 45)).drew
          obtain ⟨WA, hWA⟩ : ∃ z, z = ((wr.alloc (.cells #[.slice none 0 0, .int .i64 0, .bool false] 45)).alloc (.cells #[.slice none 0 0, .int .i64 0, .bool false] 45)).drew := ⟨_, rfl⟩
          rw [← hWA] at nn1 nn2 qA
          rw [← hWA]
          clear hWA
          have x6 : Bx WA (wr.heap.size) 45 #[.slice none 0 0, .int .i64 0, .bool false] := nn1
          have x7 : Bx WA (wr.heap.size + 1) 45 #[.slice none 0 0, .int .i64 0, .bool false] := nn2
          obtain ⟨c0', c1', c2'⟩ : WA.cell? ⟨wr.heap.size, 0, none⟩ = some (.slice none 0 0) ∧ WA.cell? ⟨wr.heap.size, 1, none⟩ = some (.int .i64 0) ∧ WA.cell? ⟨wr.heap.size, 2, none⟩ = some (.bool false) := ⟨x6.cell 0, x6.cell 1, x6.cell 2⟩
          have f0' := x6.frozen 0
          have f1' := x6.frozen 1
          have f2' := x6.frozen 2
          refine aR [12] ?_
          refine AllReadyH.cons (o := _) rfl (fun K hK => ?_) AllReadyH.nil
          go_simp
          have z6 := ((x6.set 0 (.slice A1 y.b.length m1)).set 1 (.int .i64 y.firm)).set 2 (.bool y.full)
          have z7 := ((x7.other (by omega : _ ≠ wr.heap.size) 0 (.slice A1 y.b.length m1)).other (by omega : _ ≠ wr.heap.size) 1 (.int .i64 y.firm)).other (by omega : _ ≠ wr.heap.size) 2 (.bool y.full)
          have qB : Q wr (((WA.setCell ⟨wr.heap.size, 0, none⟩ (.slice A1 y.b.length m1)).setCell ⟨wr.heap.size, 1, none⟩ (.int .i64 y.firm)).setCell ⟨wr.heap.size, 2, none⟩ (.bool y.full)) := Q.set (Q.set (Q.set qA (by omega) _) (by omega) _) (by omega) _
          simp only [List.setIfInBounds_toArray, List.set_cons_zero, List.set_cons_succ] at z6
          obtain ⟨WB, hWB⟩ : ∃ z, z = ((WA.setCell ⟨wr.heap.size, 0, none⟩ (.slice A1 y.b.length m1)).setCell ⟨wr.heap.size, 1, none⟩ (.int .i64 y.firm)).setCell ⟨wr.heap.size, 2, none⟩ (.bool y.full) := ⟨_, rfl⟩
          rw [← hWB] at z6 z7 qB
          rw [← hWB]
          clear hWB c0' c1' c2' f0' f1' f2'
          refine hK.out _ _ (KS.out _ qB) (fun hHeld4 => ?_)
          clear hK K
          refine pg ?_
          obtain ⟨c0', c1', c2'⟩ : WB.cell? ⟨wr.heap.size + 1, 0, none⟩ = some (.slice none 0 0) ∧ WB.cell? ⟨wr.heap.size + 1, 1, none⟩ = some (.int .i64 0) ∧ WB.cell? ⟨wr.heap.size + 1, 2, none⟩ = some (.bool false) := ⟨z7.cell 0, z7.cell 1, z7.cell 2⟩
          have f0' := z7.frozen 0
          have f1' := z7.frozen 1
          have f2' := z7.frozen 2
          refine aR [13] ?_
          refine AllReadyH.cons (o := _) rfl (fun K hK => ?_) AllReadyH.nil
          go_simp
          have y7 := ((z7.set 0 (.slice B1 y2.b.length m2)).set 1 (.int .i64 y2.firm)).set 2 (.bool y2.full)
          have y6 := ((z6.other (by omega : _ ≠ wr.heap.size + 1) 0 (.slice B1 y2.b.length m2)).other (by omega : _ ≠ wr.heap.size + 1) 1 (.int .i64 y2.firm)).other (by omega : _ ≠ wr.heap.size + 1) 2 (.bool y2.full)
          have qC : Q wr (((WB.setCell ⟨wr.heap.size + 1, 0, none⟩ (.slice B1 y2.b.length m2)).setCell ⟨wr.heap.size + 1, 1, none⟩ (.int .i64 y2.firm)).setCell ⟨wr.heap.size + 1, 2, none⟩ (.bool y2.full)) := Q.set (Q.set (Q.set qB (by omega) _) (by omega) _) (by omega) _
          simp only [List.setIfInBounds_toArray, List.set_cons_zero, List.set_cons_succ] at y7
          obtain ⟨WC, hWC⟩ : ∃ z, z = ((WB.setCell ⟨wr.heap.size + 1, 0, none⟩ (.slice B1 y2.b.length m2)).setCell ⟨wr.heap.size + 1, 1, none⟩ (.int .i64 y2.firm)).setCell ⟨wr.heap.size + 1, 2, none⟩ (.bool y2.full) := ⟨_, rfl⟩
          rw [← hWC] at y7 y6 qC
          rw [← hWC]
          clear hWC c0' c1' c2' f0' f1' f2'
          refine hK.out _ _ (KS.out _ qC) (fun hHeld4 => ?_)
          clear hK K
          refine pg ?_
          refine wpAnyH_done (by kernel_rfl) ?_ _
          go_wp2_with fail
          go_meet
          exact ⟨_, _, rfl, rfl, y6, y7, qC⟩
        · go_simp
          refine hK.out _ _ (KS.out _ (q1.alloc _)) (fun hHeld2 => ?_)
          clear hK K
          refine pg ?_
          refine aR [10] ?_
          refine AllReadyH.cons (o := _) rfl (fun K hK => ?_) AllReadyH.nil
          go_simp
          refine hK.out _ _ (KS.out _ ((q1.alloc _).alloc _)) (fun hHeld3 => ?_)
          clear hK K
          refine pg ?_
          have nn1 := ((Bx.new wr 45 #[.slice none 0 0, .int .i64 0, .bool false]).alloc (.cells #[.slice none 0 0, .int .i64 0, .bool false] 45)).on ((Q.refl _).drew)
          have nn2 := (Bx.new (wr.alloc (.cells #[.slice none 0 0, .int .i64 0, .bool false] 45)) 45 #[.slice none 0 0, .int .i64 0, .bool false]).on ((Q.refl _).drew)
          rw [World.size_alloc] at nn2
          have qA := (((Q.refl wr).alloc (.cells #[.slice none 0 0, .int .i64 0, .bool false] 45)).alloc (.cells #[.slice none 0 0, .int .i64 0, .bool false] 45)).drew
          obtain ⟨WA, hWA⟩ : ∃ z, z = ((wr.alloc (.cells #[.slice none 0 0, .int .i64 0, .bool false] 45)).alloc (.cells #[.slice none 0 0, .int .i64 0, .bool false] 45)).drew := ⟨_, rfl⟩
          rw [← hWA] at nn1 nn2 qA
          rw [← hWA]
          clear hWA
          have x6 : Bx WA (wr.heap.size + 1) 45 #[.slice none 0 0, .int .i64 0, .bool false] := nn2
          have x7 : Bx WA (wr.heap.size) 45 #[.slice none 0 0, .int .i64 0, .bool false] := nn1
          obtain ⟨c0', c1', c2'⟩ : WA.cell? ⟨wr.heap.size + 1, 0, none⟩ = some (.slice none 0 0) ∧ WA.cell? ⟨wr.heap.size + 1, 1, none⟩ = some (.int .i64 0) ∧ WA.cell? ⟨wr.heap.size + 1, 2, none⟩ = some (.bool false) := ⟨x6.cell 0, x6.cell 1, x6.cell 2⟩
          have f0' := x6.frozen 0
          have f1' := x6.frozen 1
          have f2' := x6.frozen 2
          refine aR [12] ?_
          refine AllReadyH.cons (o := _) rfl (fun K hK => ?_) AllReadyH.nil
          go_simp
          have z6 := ((x6.set 0 (.slice A1 y.b.length m1)).set 1 (.int .i64 y.firm)).set 2 (.bool y.full)
          have z7 := ((x7.other (by omega : _ ≠ wr.heap.size + 1) 0 (.slice A1 y.b.length m1)).other (by omega : _ ≠ wr.heap.size + 1) 1 (.int .i64 y.firm)).other (by omega : _ ≠ wr.heap.size + 1) 2 (.bool y.full)
          have qB : Q wr (((WA.setCell ⟨wr.heap.size + 1, 0, none⟩ (.slice A1 y.b.length m1)).setCell ⟨wr.heap.size + 1, 1, none⟩ (.int .i64 y.firm)).setCell ⟨wr.heap.size + 1, 2, none⟩ (.bool y.full)) := Q.set (Q.set (Q.set qA (by omega) _) (by omega) _) (by omega) _
          simp only [List.setIfInBounds_toArray, List.set_cons_zero, List.set_cons_succ] at z6
          obtain ⟨WB, hWB⟩ : ∃ z, z = ((WA.setCell ⟨wr.heap.size + 1, 0, none⟩ (.slice A1 y.b.length m1)).setCell ⟨wr.heap.size + 1, 1, none⟩ (.int .i64 y.firm)).setCell ⟨wr.heap.size + 1, 2, none⟩ (.bool y.full) := ⟨_, rfl⟩
          rw [← hWB] at z6 z7 qB
          rw [← hWB]
          clear hWB c0' c1' c2' f0' f1' f2'
          refine hK.out _ _ (KS.out _ qB) (fun hHeld4 => ?_)
          clear hK K
          refine pg ?_
          obtain ⟨c0', c1', c2'⟩ : WB.cell? ⟨wr.heap.size, 0, none⟩ = some (.slice none 0 0) ∧ WB.cell? ⟨wr.heap.size, 1, none⟩ = some (.int .i64 0) ∧ WB.cell? ⟨wr.heap.size, 2, none⟩ = some (.bool false) := ⟨z7.cell 0, z7.cell 1, z7.cell 2⟩
          have f0' := z7.frozen 0
          have f1' := z7.frozen 1
          have f2' := z7.frozen 2
          refine aR [13] ?_
          refine AllReadyH.cons (o := _) rfl (fun K hK => ?_) AllReadyH.nil
          go_simp
          have y7 := ((z7.set 0 (.slice B1 y2.b.length m2)).set 1 (.int .i64 y2.firm)).set 2 (.bool y2.full)
          have y6 := ((z6.other (by omega : _ ≠ wr.heap.size) 0 (.slice B1 y2.b.length m2)).other (by omega : _ ≠ wr.heap.size) 1 (.int .i64 y2.firm)).other (by omega : _ ≠ wr.heap.size) 2 (.bool y2.full)
          have qC : Q wr (((WB.setCell ⟨wr.heap.size, 0, none⟩ (.slice B1 y2.b.length m2)).setCell ⟨wr.heap.size, 1, none⟩ (.int .i64 y2.firm)).setCell ⟨wr.heap.size, 2, none⟩ (.bool y2.full)) := Q.set (Q.set (Q.set qB (by omega) _) (by omega) _) (by omega) _
          simp only [List.setIfInBounds_toArray, List.set_cons_zero, List.set_cons_succ] at y7
          obtain ⟨WC, hWC⟩ : ∃ z, z = ((WB.setCell ⟨wr.heap.size, 0, none⟩ (.slice B1 y2.b.length m2)).setCell ⟨wr.heap.size, 1, none⟩ (.int .i64 y2.firm)).setCell ⟨wr.heap.size, 2, none⟩ (.bool y2.full) := ⟨_, rfl⟩
          rw [← hWC] at y7 y6 qC
          rw [← hWC]
          clear hWC c0' c1' c2' f0' f1' f2'
          refine hK.out _ _ (KS.out _ qC) (fun hHeld4 => ?_)
          clear hK K
          refine pg ?_
          refine wpAnyH_done (by kernel_rfl) ?_ _
          go_wp2_with fail
          go_meet
          exact ⟨_, _, rfl, rfl, y6, y7, qC⟩
      case rest =>
        obtain ⟨p6, p7, rfl, rfl, x6, x7, qc⟩ := hcut
        have y1 : wc.cell? ⟨w.heap.size + 1, 1, none⟩ = some (.int .u8 (zone : Nat)) := (BA2.out.on (QW.out.trans qc)).cell 1
        by_cases hiz : i = z
        · have hiz' : ((i : Int) != (z : Int)) = false := by rw [hiz]; simp
          clear x6 x7 hiz
          go_wp2_with fail
          go_roundw
          case rel => exact ⟨i + 1, by omega, by go_num, QW.out.trans qc⟩
          case measure => simp [intOf]; omega
        · have hiz' : ((i : Int) != (z : Int)) = true := by simp; omega
          have hyy := HEQ.out (by omega)
          subst hyy
          obtain ⟨m0, m1', m2'⟩ : wc.cell? ⟨p6, 0, none⟩ = some (.slice A1 y2.b.length m1) ∧ wc.cell? ⟨p6, 1, none⟩ = some (.int .i64 y2.firm) ∧ wc.cell? ⟨p6, 2, none⟩ = some (.bool y2.full) := ⟨x6.cell 0, x6.cell 1, x6.cell 2⟩
          obtain ⟨o0, o1, o2⟩ : wc.cell? ⟨p7, 0, none⟩ = some (.slice B1 y2.b.length m2) ∧ wc.cell? ⟨p7, 1, none⟩ = some (.int .i64 y2.firm) ∧ wc.cell? ⟨p7, 2, none⟩ = some (.bool y2.full) := ⟨x7.cell 0, x7.cell 1, x7.cell 2⟩
          have hff : (y2.full != y2.full) = false := by simp
          have t1 := HB1.out _ qc
          have t2 := HB2.out _ qc
          have SM2 := Lib.hid (fun (x : World) (u v : Value) (h : Txts x x.heap.size u y2.b) (k : Txts x x.heap.size v y2.b) => same_any y2.b y2.b u v x (by omega) (by omega) h k)
          have hd : decide (y2.b = y2.b) = true := by simp
          rw [hd] at SM2
          clear x6 x7 hiz hd
          go_wp2_with fail
          refine (SM2.out _ _ _ t1 t2).mono ?_
          rintro e w5 ⟨rfl, q5⟩
          go_wp2_with fail
          go_roundw
          case rel => exact ⟨i + 1, by omega, by go_num, QW.out.trans (qc.trans q5)⟩
          case measure => simp [intOf]; omega
    · have h2 : ¬ (i : Int) < (n2 : Int) := by omega
      have Q5 := Lib.hid (Q4.out.trans q)
      clear q
      go_wp2_with fail
      refine (awake13_any _).mono ?_
      rintro e wz ⟨rfl, qz⟩
      go_wp2_with fail
      go_ret
      exact ⟨rfl, Q5.out.trans qz⟩

set_option maxRecDepth 100000 in
theorem lifted (os : Os) (started : os.Started) (H : Type) (enc : TypeId × Value → H) :
    ReturnsInHanded {} Try.checked os 8 .any (Rows.zoneApartSpec.pre6 enc Try.prog Try.f8 Rows.zoneApartRow.domain false) (Rows.zoneApartSpec.post enc Try.prog Try.f8 false true false false) := by
  refine returnsInHanded_of_change (C := Try.checked) own started (by kernel_rfl) Try.func8
    (ChangeSpec.witness6 (enc := enc) (C := Try.checked) false ⟨#[], #[.agg #[.slice none 0 0, .int .i64 0, .int .i64 0, .int .i64 0, .bool false, .int .i64 0], .agg #[.int .u8 0, .int .u8 0, .int .u8 0, .int .u8 0]], []⟩ 8 (by kernel_rfl) (by kernel_rfl) (by kernel_rfl) (by kernel_rfl)) ?_
  intro W base args ds gs before hval0 hW hcnd _
  have hval : ∀ (j : Nat) t v, Try.f8.params[j]? = some t → args[j]? = some v → Value.okWide Try.prog W .any base t v := hval0
  have hW' := hW
  obtain ⟨p, q, hA0, hV, rfl, hfz, hnd⟩ := hW
  have hA : DataW.TrodAll enc Try.prog W 0 (fun _ => true) true Try.f8.params.toList args.toList ds p := hA0
  rw [Try.params8] at hA hval
  obtain ⟨v0, vs0, d0, ds0, p0, q0, hargs, rfl, rfl, h0, r0⟩ := trodAll_cons hA
  obtain ⟨v1, vs1, d1, ds1, p1, q1, rfl, rfl, rfl, h1, r1⟩ := trodAll_cons r0
  obtain ⟨rfl, rfl, rfl⟩ := trodAll_nil r1
  obtain rfl : args = #[v0, v1] := by cases args; simp_all
  obtain ⟨rfl, rfl⟩ := trodVars_none hV
  clear hA0 hval0
  simp only [List.append_nil] at hW'
  have hlt : ∀ x ∈ p0 ++ p1, x.block < W.heap.size := fun x hx => by simpa using hW'.lt x (by simpa using hx)
  obtain ⟨d0, u0, rfl, t0, y0⟩ := open_dev (hval 0 24 v0 rfl rfl) h0
  obtain ⟨a1, rfl, y1⟩ := open_ac (hval 1 50 v1 rfl rfl) h1
  refine (walk d0 u0 a1 W t0 y0 y1).mono fun e W' ⟨he, bel⟩ => ?_
  subst he
  refine ⟨_, rfl, _, _, _, [], _, [], hW', trodAll_mk1 (shut_bool Try.underlying4 _), (trodAll_cons_mk (Below.trod laid (by kernel_rfl) (of_decide_eq_true (by kernel_rfl)) h0 bel (fun x hx => hlt x (by simp [hx]))) (trodAll_cons_mk (Below.trod laid (by kernel_rfl) (of_decide_eq_true (by kernel_rfl)) h1 bel (fun x hx => hlt x (by simp [hx]))) trodAll_mk0)), rfl, Below.frame bel _, fun h => by cases h⟩

theorem over : Rows.zoneApartRow.holds Try.pinned (OpenSpec.ofChange Rows.zoneApartSpec) :=
  OpenClaim.holds_of_wide 8 Try.f8 rfl rfl rfl rfl rfl rfl rfl ⟨rfl, rfl, rfl, rfl, rfl⟩ rfl rfl rfl rfl rfl (by kernel_rfl) Try.func8 (by kernel_rfl)
    (of_decide_eq_true (by kernel_rfl)) (by unfold Func.isWrapper; first | (rw [if_pos (by decide +kernel)]; kernel_rfl) | (rw [if_neg (by decide +kernel)]; exact ⟨rfl, rfl⟩))
    (fun os started H enc _ => lifted os started H enc)

theorem proved : Rows.ZoneApartSaid := over
#print axioms proved
end Go.Proofs.Yteoondmakdghhaa.zoneApart
