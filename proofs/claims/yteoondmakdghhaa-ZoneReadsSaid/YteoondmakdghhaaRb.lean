/-
  Contract of the document's May of devices. One operation of a held region taken first, with all that it asks shown by itself; several calls that are ready. Contracts of the program's questions of zones and devices. Contracts of the program's questions of devices: numbersMay, zoneMay, hasZone, May. Contract of the program's May of devices.
-/
import Derived.Test.YteoondmakdghhaaRa
import Derived.Deep.DeepCutAuto
import Derived.OrdersHeld
import Derived.Deep.RegionHeld
import Derived.BigQuiet
namespace Go.Proofs.Yteoondmakdghhaa
set_option maxRecDepth 100000
open Go.ChangeShapes Go.WideShapes Go.ChangeAt Go.RowKit
set_option linter.unusedVariables false
set_option linter.unusedSimpArgs false
set_option maxRecDepth 100000
/-- What is asked of a device but of its zones. -/
def headD (d : Dv) : Bool := decide (1 ≤ d.zs.length) && (decide (d.zs.length ≤ 40) && (decide (1 ≤ d.size) && (decide (d.size ≤ 300) && (decide (1 ≤ d.mo) && (decide (-1 ≤ d.fuel) && decide (0 ≤ d.bad))))))
theorem mayD_head (d : Dv) : mayD d = (headD d && d.zs.all (okZn d.size) && decide ((openN d.zs : Int) ≤ d.mo)) := by
  unfold mayD headD; simp [Bool.and_assoc]
def sz64 (s : ByteArray) : Bool := decide (s.size = 64)
theorem all_take {α : Type} (f : α → Bool) (l : List α) (i : Nat) (h : i < l.length) : (l.take (i + 1)).all f = ((l.take i).all f && f l[i]) := by
  rw [List.take_succ_eq_append_getElem h, List.all_append]; simp
def frontZ (n : Int) (z : Zn) : Bool := decide ((z.b.length : Int) ≤ n) && (decide (0 ≤ z.firm) && decide (z.firm ≤ z.b.length))
theorem okZn_front (n : Int) (z : Zn) : okZn n z = (frontZ n z && z.b.all sz64 && ((!decide ((z.b.length : Int) = n) || z.full) && (!decide (z.b.length = 0) || !z.full))) := by
  unfold okZn frontZ sz64; simp [Bool.and_assoc]
set_option maxHeartbeats 16000000 in
theorem rMay_any (d : Dv) (u : Value) (w : World) (hl : d.zs.length ≤ 100000) (ht : Zns w w.heap.size u d.zs) :
    Calls Try.prog 16 #[dvV d u] w fun e w' => e = .returned (.bool (mayD d)) ∧ Q w w' := by
  obtain ⟨A0, c0, rfl⟩ := ht.form
  have HT := Lib.hid ht
  clear ht
  have HM := Lib.hid (mayD_head d)
  have HH : Hid (headD d = (decide (1 ≤ d.zs.length) && (decide (d.zs.length ≤ 40) && (decide (1 ≤ d.size) && (decide (d.size ≤ 300) && (decide (1 ≤ d.mo) && (decide (-1 ≤ d.fuel) && decide (0 ≤ d.bad)))))))) := Lib.hid rfl
  obtain ⟨G0, hG0⟩ : ∃ b, b = headD d := ⟨_, rfl⟩
  rw [← hG0] at HM HH
  clear hG0
  obtain ⟨zs, size, mo, fuel, off, bad⟩ := d
  rw [dvV]
  simp only at HT hl HM HH ⊢
  have bx := Bx.new w 24 #[.slice A0 zs.length c0, .int .i64 size, .int .i64 mo, .int .i64 fuel, .bool off, .int .i64 bad]
  have q0 := (Q.refl w).alloc (.cells #[.slice A0 zs.length c0, .int .i64 size, .int .i64 mo, .int .i64 fuel, .bool off, .int .i64 bad] 24)
  obtain ⟨W0, hW0⟩ : ∃ z, z = w.alloc (.cells #[.slice A0 zs.length c0, .int .i64 size, .int .i64 mo, .int .i64 fuel, .bool off, .int .i64 bad] 24) := ⟨_, rfl⟩
  rw [← hW0] at bx q0
  have BX := Lib.hid bx
  have Q0 := Lib.hid q0
  obtain ⟨b0, b1, b2, b3, b5⟩ : W0.cell? ⟨w.heap.size, 0, none⟩ = some (.slice A0 zs.length c0) ∧ W0.cell? ⟨w.heap.size, 1, none⟩ = some (.int .i64 size) ∧ W0.cell? ⟨w.heap.size, 2, none⟩ = some (.int .i64 mo) ∧ W0.cell? ⟨w.heap.size, 3, none⟩ = some (.int .i64 fuel) ∧ W0.cell? ⟨w.heap.size, 5, none⟩ = some (.int .i64 bad) := ⟨bx.cell 0, bx.cell 1, bx.cell 2, bx.cell 3, bx.cell 5⟩
  clear bx q0
  go_enter Try.func16, Try.ntmps16
  go_upto_region 1 with fail
  rw [← hW0]
  clear hW0
  go_cut [3] from 9 to 43 (fun V wx => V = .bool G0 ∧ wx = W0)
  case first =>
    by_cases h1 : 1 ≤ zs.length
    · have j1 : (1 : Int) ≤ (zs.length : Int) := by omega
      by_cases h2 : zs.length ≤ 40
      · have j2 : (zs.length : Int) ≤ 40 := by omega
        by_cases h3 : 1 ≤ size
        · skip
          by_cases h4 : size ≤ 300
          · skip
            by_cases h5 : 1 ≤ mo
            · skip
              by_cases h6 : -1 ≤ fuel
              · skip
                by_cases h7 : 0 ≤ bad
                · skip
                  have HG : Hid (G0 = true) := Lib.hid (by rw [HH.out]; simp [*])
                  go_wp2_with fail
                  go_meet
                  exact ⟨by rw [HG.out], rfl⟩
                · skip
                  have HG : Hid (G0 = false) := Lib.hid (by rw [HH.out]; simp [*])
                  go_wp2_with fail
                  go_meet
                  exact ⟨by rw [HG.out], rfl⟩
              · skip
                have HG : Hid (G0 = false) := Lib.hid (by rw [HH.out]; simp [*])
                go_wp2_with fail
                go_meet
                exact ⟨by rw [HG.out], rfl⟩
            · skip
              have HG : Hid (G0 = false) := Lib.hid (by rw [HH.out]; simp [*])
              go_wp2_with fail
              go_meet
              exact ⟨by rw [HG.out], rfl⟩
          · skip
            have HG : Hid (G0 = false) := Lib.hid (by rw [HH.out]; simp [*])
            go_wp2_with fail
            go_meet
            exact ⟨by rw [HG.out], rfl⟩
        · skip
          have HG : Hid (G0 = false) := Lib.hid (by rw [HH.out]; simp [*])
          go_wp2_with fail
          go_meet
          exact ⟨by rw [HG.out], rfl⟩
      · have j2 : ¬ (zs.length : Int) ≤ 40 := by omega
        have HG : Hid (G0 = false) := Lib.hid (by rw [HH.out]; simp [*])
        go_wp2_with fail
        go_meet
        exact ⟨by rw [HG.out], rfl⟩
    · have j1 : ¬ (1 : Int) ≤ (zs.length : Int) := by omega
      have HG : Hid (G0 = false) := Lib.hid (by rw [HH.out]; simp [*])
      go_wp2_with fail
      go_meet
      exact ⟨by rw [HG.out], rfl⟩
  case rest =>
    obtain ⟨rfl, rfl⟩ := hcut
    clear b0 b1 b2 b3 b5
    go_wp2_with fail
    go_loopw [3, 4, 5] (fun G N I wr => ∃ (i m : Nat) (g : Bool), i ≤ zs.length ∧ I = .int .i64 i ∧ N = .int .i64 m ∧ G = .bool g ∧ Hid (g = (G0 && (zs.take i).all (okZn size))) ∧ Hid (m = openN (zs.take i)) ∧ m ≤ i ∧ Q wc wr) (fun _ _ I _ => zs.length - (intOf I).toNat)
    case atStart => exact ⟨0, 0, G0, Nat.zero_le _, rfl, rfl, rfl, Lib.hid (by simp), Lib.hid rfl, Nat.le_refl _, Q.refl _⟩
    case round =>
      obtain ⟨i, m, g, hil, rfl, rfl, rfl, HG, HN, hmi, q⟩ := hrel
      obtain ⟨wo, hwo⟩ : ∃ x, x = wr := ⟨_, rfl⟩
      subst hwo
      obtain ⟨b0, b1, b2⟩ : wo.cell? ⟨w.heap.size, 0, none⟩ = some (.slice A0 zs.length c0) ∧ wo.cell? ⟨w.heap.size, 1, none⟩ = some (.int .i64 size) ∧ wo.cell? ⟨w.heap.size, 2, none⟩ = some (.int .i64 mo) := ⟨(BX.out.on q).cell 0, (BX.out.on q).cell 1, (BX.out.on q).cell 2⟩
      have HF : Hid (g = false → mayD ⟨zs, size, mo, fuel, off, bad⟩ = false) := Lib.hid (fun e => by
        rw [HM.out]
        have h := HG.out
        rw [e] at h
        cases hh : G0 with
        | false => simp
        | true =>
          rw [hh, Bool.true_and] at h
          have : zs.all (okZn size) = false := by
            rw [← List.take_append_drop i zs, List.all_append, ← h]; rfl
          simp [this])
      by_cases hlt : i < zs.length
      · have hilt : (i : Int) < (zs.length : Int) := by omega
        cases g with
        | false =>
          have HV := Lib.hid (HF.out rfl)
          clear HF
          go_wp2_with fail
          go_ret
          exact ⟨by rw [HV.out]; rfl, Q0.out.trans q⟩
        | true =>
          clear HF
          obtain ⟨a, c1, A1, n1, e1, ha, hok, hat⟩ := HT.out.pick i hlt
          have hyl := hok.1
          unfold maxLen at hyl
          clear hok
          injection e1 with e1 e2 e3
          subst e1 e3
          obtain ⟨z0, z1, z2, -⟩ := hat wo (Q0.out.trans q)
          have HS := Lib.hid (openN_take zs i hlt)
          have HA := Lib.hid (all_take (okZn size) zs i hlt)
          have HK := Lib.hid (okZn_front size zs[i])
          have HFR : Hid (frontZ size zs[i] = (decide ((zs[i].b.length : Int) ≤ size) && (decide (0 ≤ zs[i].firm) && decide (zs[i].firm ≤ zs[i].b.length)))) := Lib.hid rfl
          have HBK : Hid (∀ x, Q wo x → Blks x x.heap.size (.slice A1 zs[i].b.length n1) zs[i].b) := Lib.hid (fun x qx => (hat x ((Q0.out.trans q).trans qx)).2.2.2)
          obtain ⟨y, hy⟩ : ∃ y, y = zs[i] := ⟨_, rfl⟩
          rw [← hy] at z0 z1 z2 HS HA HK HFR HBK hyl
          clear hat hy
          obtain ⟨F0, hF0⟩ : ∃ b, b = frontZ size y := ⟨_, rfl⟩
          rw [← hF0] at HK HFR
          clear hF0
          have bz := Bx.new wo 45 #[.slice A1 y.b.length n1, .int .i64 y.firm, .bool y.full]
          have qz := (Q.refl wo).alloc (.cells #[.slice A1 y.b.length n1, .int .i64 y.firm, .bool y.full] 45)
          obtain ⟨wb, hwb⟩ : ∃ z, z = wo.alloc (.cells #[.slice A1 y.b.length n1, .int .i64 y.firm, .bool y.full] 45) := ⟨_, rfl⟩
          rw [← hwb] at bz qz
          have BZ := Lib.hid bz
          have QZ := Lib.hid qz
          obtain ⟨x0, x1, x2⟩ : wb.cell? ⟨wo.heap.size, 0, none⟩ = some (.slice A1 y.b.length n1) ∧ wb.cell? ⟨wo.heap.size, 1, none⟩ = some (.int .i64 y.firm) ∧ wb.cell? ⟨wo.heap.size, 2, none⟩ = some (.bool y.full) := ⟨bz.cell 0, bz.cell 1, bz.cell 2⟩
          obtain ⟨y0, y1, y2⟩ : wb.cell? ⟨w.heap.size, 0, none⟩ = some (.slice (some a) zs.length c0) ∧ wb.cell? ⟨w.heap.size, 1, none⟩ = some (.int .i64 size) ∧ wb.cell? ⟨w.heap.size, 2, none⟩ = some (.int .i64 mo) := ⟨(BX.out.on (q.trans qz)).cell 0, (BX.out.on (q.trans qz)).cell 1, (BX.out.on (q.trans qz)).cell 2⟩
          clear bz qz
          go_upto_region 8 with fail
          rw [← hwb]
          clear hwb b0 b1 b2 z0 z1 z2
          go_cut [3] from 62 to 76 (fun V wx => V = .bool F0 ∧ wx = wb)
          case first =>
            by_cases k1 : (y.b.length : Int) ≤ size
            · by_cases k2 : 0 ≤ y.firm
              · by_cases k3 : y.firm ≤ (y.b.length : Int)
                · have HV : Hid (F0 = true) := Lib.hid (by rw [HFR.out]; simp [*])
                  go_wp2_with fail
                  go_meet
                  exact ⟨by rw [HV.out], rfl⟩
                · have HV : Hid (F0 = false) := Lib.hid (by rw [HFR.out]; simp [*])
                  go_wp2_with fail
                  go_meet
                  exact ⟨by rw [HV.out], rfl⟩
              · have HV : Hid (F0 = false) := Lib.hid (by rw [HFR.out]; simp [*])
                go_wp2_with fail
                go_meet
                exact ⟨by rw [HV.out], rfl⟩
            · have HV : Hid (F0 = false) := Lib.hid (by rw [HFR.out]; simp [*])
              go_wp2_with fail
              go_meet
              exact ⟨by rw [HV.out], rfl⟩
          case rest =>
            obtain ⟨rfl, hwx⟩ := hcut
            subst hwx
            clear y0 y1 y2 x0 x1 x2
            go_wp2_with fail
            go_loopw [3, 8] (fun G K wx => ∃ (k : Nat) (g : Bool), k ≤ y.b.length ∧ K = .int .i64 k ∧ G = .bool g ∧ Hid (g = (F0 && (y.b.take k).all sz64)) ∧ Q wo wx ∧ Bx wx wo.heap.size 45 #[.slice A1 y.b.length n1, .int .i64 y.firm, .bool y.full]) (fun _ K _ => y.b.length - (intOf K).toNat)
            case atStart => exact ⟨0, F0, Nat.zero_le _, rfl, rfl, Lib.hid (by simp), QZ.out, BZ.out⟩
            case round =>
              obtain ⟨k, g, hkl, rfl, rfl, HK2, q2, bz⟩ := hrel
              obtain ⟨x0, x2⟩ : wr.cell? ⟨wo.heap.size, 0, none⟩ = some (.slice A1 y.b.length n1) ∧ wr.cell? ⟨wo.heap.size, 2, none⟩ = some (.bool y.full) := ⟨bz.cell 0, bz.cell 2⟩
              have y1 : wr.cell? ⟨w.heap.size, 1, none⟩ = some (.int .i64 size) := (BX.out.on (q.trans q2)).cell 1
              by_cases hkt : k < y.b.length
              · have hktl : (k : Int) < (y.b.length : Int) := by omega
                obtain ⟨A2, n2, e2, -, -, hel⟩ := HBK.out wr q2
                injection e2 with e21 e22 e23
                subst e21 e23
                obtain ⟨aa, rfl, -, hs⟩ := hel k hkt
                have HT2 := Lib.hid (all_take sz64 y.b k hkt)
                obtain ⟨s, hse⟩ : ∃ s, s = y.b[k] := ⟨_, rfl⟩
                rw [← hse] at hs HT2
                clear hel hse
                cases g with
                | false =>
                  have HN2 : Hid (false = (F0 && (y.b.take (k + 1)).all sz64)) := Lib.hid (by rw [HT2.out, ← Bool.and_assoc, ← HK2.out]; rfl)
                  go_wp2_with fail
                  go_roundw
                  case rel => exact ⟨k + 1, false, by omega, by go_num, rfl, HN2, q2, bz⟩
                  case measure => simp [intOf]; omega
                | true =>
                  by_cases h64 : s.size = 64
                  · have h64' : ((s.size : Int) == 64) = true := by simp; omega
                    have HN2 : Hid (true = (F0 && (y.b.take (k + 1)).all sz64)) := Lib.hid (by rw [HT2.out, ← Bool.and_assoc, ← HK2.out]; simp [sz64, h64])
                    clear h64
                    go_wp2_with fail
                    go_roundw
                    case rel => exact ⟨k + 1, true, by omega, by go_num, by first | rfl | simp [h64'], HN2, q2, bz⟩
                    case measure => simp [intOf]; omega
                  · have h64' : ((s.size : Int) == 64) = false := by simp; omega
                    have HN2 : Hid (false = (F0 && (y.b.take (k + 1)).all sz64)) := Lib.hid (by rw [HT2.out, ← Bool.and_assoc, ← HK2.out]; simp [sz64, h64])
                    clear h64
                    go_wp2_with fail
                    go_roundw
                    case rel => exact ⟨k + 1, false, by omega, by go_num, by first | rfl | simp [h64'], HN2, q2, bz⟩
                    case measure => simp [intOf]; omega
              · have hktl : ¬ (k : Int) < (y.b.length : Int) := by omega
                rw [List.take_of_length_le (by omega)] at HK2
                have HZ : Hid (okZn size y = (g && ((!decide ((y.b.length : Int) = size) || y.full) && (!decide (y.b.length = 0) || !y.full)))) := Lib.hid (by rw [HK.out, ← HK2.out])
                have HOP : Hid (isOpen y = (decide (0 < y.b.length) && !y.full)) := Lib.hid rfl
                have HGA : Hid (∀ z, okZn size y = z → z = (G0 && (zs.take (i + 1)).all (okZn size))) := Lib.hid (fun z e => by rw [HA.out, e, ← Bool.and_assoc, ← HG.out, Bool.true_and])
                have qq := q.trans q2
                clear HK2 HK HFR HBK QZ BZ HA hkl hkt
                by_cases hsz : (y.b.length : Int) = size
                · have j1 : ((y.b.length : Int) == size) = true := by simpa using hsz
                  by_cases h0 : y.b.length = 0
                  · have j2 : ((y.b.length : Int) == 0) = true := by rw [h0]; rfl
                    have j3 : ¬ (0 : Int) < (y.b.length : Int) := by omega
                    have hd1 : decide ((y.b.length : Int) = size) = true := by simpa using hsz
                    have hd2 : decide (y.b.length = 0) = true := by simpa using h0
                    have hd3 : decide (0 < y.b.length) = false := decide_eq_false (by omega)
                    clear hsz h0
                    cases hf : y.full with
                    | true =>
                      rw [hf] at x2
                      cases g with
                      | true =>
                        have HV : Hid (false = (G0 && (zs.take (i + 1)).all (okZn size))) := Lib.hid (HGA.out _ (by rw [HZ.out, hd1, hd2, hf]; rfl))
                        have HN2 : Hid (m = openN (zs.take (i + 1))) := Lib.hid (by rw [HS.out, ← HN.out, HOP.out, hf, hd3]; rfl)
                        clear HZ HOP HGA HS hd1 hd2 hd3 hf
                        go_wp2_with fail
                        go_roundw
                        case rel => exact ⟨i + 1, m, false, by omega, by go_num, by go_num, rfl, HV, HN2, by omega, qq⟩
                        case measure => simp [intOf]; omega
                      | false =>
                        have HV : Hid (false = (G0 && (zs.take (i + 1)).all (okZn size))) := Lib.hid (HGA.out _ (by rw [HZ.out, hd1, hd2, hf]; rfl))
                        have HN2 : Hid (m = openN (zs.take (i + 1))) := Lib.hid (by rw [HS.out, ← HN.out, HOP.out, hf, hd3]; rfl)
                        clear HZ HOP HGA HS hd1 hd2 hd3 hf
                        go_wp2_with fail
                        go_roundw
                        case rel => exact ⟨i + 1, m, false, by omega, by go_num, by go_num, rfl, HV, HN2, by omega, qq⟩
                        case measure => simp [intOf]; omega
                    | false =>
                      rw [hf] at x2
                      cases g with
                      | true =>
                        have HV : Hid (false = (G0 && (zs.take (i + 1)).all (okZn size))) := Lib.hid (HGA.out _ (by rw [HZ.out, hd1, hd2, hf]; rfl))
                        have HN2 : Hid (m = openN (zs.take (i + 1))) := Lib.hid (by rw [HS.out, ← HN.out, HOP.out, hf, hd3]; rfl)
                        clear HZ HOP HGA HS hd1 hd2 hd3 hf
                        go_wp2_with fail
                        go_roundw
                        case rel => exact ⟨i + 1, m, false, by omega, by go_num, by go_num, rfl, HV, HN2, by omega, qq⟩
                        case measure => simp [intOf]; omega
                      | false =>
                        have HV : Hid (false = (G0 && (zs.take (i + 1)).all (okZn size))) := Lib.hid (HGA.out _ (by rw [HZ.out, hd1, hd2, hf]; rfl))
                        have HN2 : Hid (m = openN (zs.take (i + 1))) := Lib.hid (by rw [HS.out, ← HN.out, HOP.out, hf, hd3]; rfl)
                        clear HZ HOP HGA HS hd1 hd2 hd3 hf
                        go_wp2_with fail
                        go_roundw
                        case rel => exact ⟨i + 1, m, false, by omega, by go_num, by go_num, rfl, HV, HN2, by omega, qq⟩
                        case measure => simp [intOf]; omega
                  · have j2 : ((y.b.length : Int) == 0) = false := beq_false_of_ne (by omega)
                    have j3 : (0 : Int) < (y.b.length : Int) := by omega
                    have hd1 : decide ((y.b.length : Int) = size) = true := by simpa using hsz
                    have hd2 : decide (y.b.length = 0) = false := by simpa using h0
                    have hd3 : decide (0 < y.b.length) = true := decide_eq_true (by omega)
                    clear hsz h0
                    cases hf : y.full with
                    | true =>
                      rw [hf] at x2
                      cases g with
                      | true =>
                        have HV : Hid (true = (G0 && (zs.take (i + 1)).all (okZn size))) := Lib.hid (HGA.out _ (by rw [HZ.out, hd1, hd2, hf]; rfl))
                        have HN2 : Hid (m = openN (zs.take (i + 1))) := Lib.hid (by rw [HS.out, ← HN.out, HOP.out, hf, hd3]; rfl)
                        clear HZ HOP HGA HS hd1 hd2 hd3 hf
                        go_wp2_with fail
                        go_roundw
                        case rel => exact ⟨i + 1, m, true, by omega, by go_num, by go_num, rfl, HV, HN2, by omega, qq⟩
                        case measure => simp [intOf]; omega
                      | false =>
                        have HV : Hid (false = (G0 && (zs.take (i + 1)).all (okZn size))) := Lib.hid (HGA.out _ (by rw [HZ.out, hd1, hd2, hf]; rfl))
                        have HN2 : Hid (m = openN (zs.take (i + 1))) := Lib.hid (by rw [HS.out, ← HN.out, HOP.out, hf, hd3]; rfl)
                        clear HZ HOP HGA HS hd1 hd2 hd3 hf
                        go_wp2_with fail
                        go_roundw
                        case rel => exact ⟨i + 1, m, false, by omega, by go_num, by go_num, rfl, HV, HN2, by omega, qq⟩
                        case measure => simp [intOf]; omega
                    | false =>
                      rw [hf] at x2
                      cases g with
                      | true =>
                        have HV : Hid (false = (G0 && (zs.take (i + 1)).all (okZn size))) := Lib.hid (HGA.out _ (by rw [HZ.out, hd1, hd2, hf]; rfl))
                        have HN2 : Hid (m + 1 = openN (zs.take (i + 1))) := Lib.hid (by rw [HS.out, ← HN.out, HOP.out, hf, hd3]; rfl)
                        clear HZ HOP HGA HS hd1 hd2 hd3 hf
                        go_wp2_with fail
                        go_roundw
                        case rel => exact ⟨i + 1, m + 1, false, by omega, by go_num, by go_num, rfl, HV, HN2, by omega, qq⟩
                        case measure => simp [intOf]; omega
                      | false =>
                        have HV : Hid (false = (G0 && (zs.take (i + 1)).all (okZn size))) := Lib.hid (HGA.out _ (by rw [HZ.out, hd1, hd2, hf]; rfl))
                        have HN2 : Hid (m + 1 = openN (zs.take (i + 1))) := Lib.hid (by rw [HS.out, ← HN.out, HOP.out, hf, hd3]; rfl)
                        clear HZ HOP HGA HS hd1 hd2 hd3 hf
                        go_wp2_with fail
                        go_roundw
                        case rel => exact ⟨i + 1, m + 1, false, by omega, by go_num, by go_num, rfl, HV, HN2, by omega, qq⟩
                        case measure => simp [intOf]; omega
                · have j1 : ((y.b.length : Int) == size) = false := by simpa using hsz
                  by_cases h0 : y.b.length = 0
                  · have j2 : ((y.b.length : Int) == 0) = true := by rw [h0]; rfl
                    have j3 : ¬ (0 : Int) < (y.b.length : Int) := by omega
                    have hd1 : decide ((y.b.length : Int) = size) = false := by simpa using hsz
                    have hd2 : decide (y.b.length = 0) = true := by simpa using h0
                    have hd3 : decide (0 < y.b.length) = false := decide_eq_false (by omega)
                    clear hsz h0
                    cases hf : y.full with
                    | true =>
                      rw [hf] at x2
                      cases g with
                      | true =>
                        have HV : Hid (false = (G0 && (zs.take (i + 1)).all (okZn size))) := Lib.hid (HGA.out _ (by rw [HZ.out, hd1, hd2, hf]; rfl))
                        have HN2 : Hid (m = openN (zs.take (i + 1))) := Lib.hid (by rw [HS.out, ← HN.out, HOP.out, hf, hd3]; rfl)
                        clear HZ HOP HGA HS hd1 hd2 hd3 hf
                        go_wp2_with fail
                        go_roundw
                        case rel => exact ⟨i + 1, m, false, by omega, by go_num, by go_num, rfl, HV, HN2, by omega, qq⟩
                        case measure => simp [intOf]; omega
                      | false =>
                        have HV : Hid (false = (G0 && (zs.take (i + 1)).all (okZn size))) := Lib.hid (HGA.out _ (by rw [HZ.out, hd1, hd2, hf]; rfl))
                        have HN2 : Hid (m = openN (zs.take (i + 1))) := Lib.hid (by rw [HS.out, ← HN.out, HOP.out, hf, hd3]; rfl)
                        clear HZ HOP HGA HS hd1 hd2 hd3 hf
                        go_wp2_with fail
                        go_roundw
                        case rel => exact ⟨i + 1, m, false, by omega, by go_num, by go_num, rfl, HV, HN2, by omega, qq⟩
                        case measure => simp [intOf]; omega
                    | false =>
                      rw [hf] at x2
                      cases g with
                      | true =>
                        have HV : Hid (true = (G0 && (zs.take (i + 1)).all (okZn size))) := Lib.hid (HGA.out _ (by rw [HZ.out, hd1, hd2, hf]; rfl))
                        have HN2 : Hid (m = openN (zs.take (i + 1))) := Lib.hid (by rw [HS.out, ← HN.out, HOP.out, hf, hd3]; rfl)
                        clear HZ HOP HGA HS hd1 hd2 hd3 hf
                        go_wp2_with fail
                        go_roundw
                        case rel => exact ⟨i + 1, m, true, by omega, by go_num, by go_num, rfl, HV, HN2, by omega, qq⟩
                        case measure => simp [intOf]; omega
                      | false =>
                        have HV : Hid (false = (G0 && (zs.take (i + 1)).all (okZn size))) := Lib.hid (HGA.out _ (by rw [HZ.out, hd1, hd2, hf]; rfl))
                        have HN2 : Hid (m = openN (zs.take (i + 1))) := Lib.hid (by rw [HS.out, ← HN.out, HOP.out, hf, hd3]; rfl)
                        clear HZ HOP HGA HS hd1 hd2 hd3 hf
                        go_wp2_with fail
                        go_roundw
                        case rel => exact ⟨i + 1, m, false, by omega, by go_num, by go_num, rfl, HV, HN2, by omega, qq⟩
                        case measure => simp [intOf]; omega
                  · have j2 : ((y.b.length : Int) == 0) = false := beq_false_of_ne (by omega)
                    have j3 : (0 : Int) < (y.b.length : Int) := by omega
                    have hd1 : decide ((y.b.length : Int) = size) = false := by simpa using hsz
                    have hd2 : decide (y.b.length = 0) = false := by simpa using h0
                    have hd3 : decide (0 < y.b.length) = true := decide_eq_true (by omega)
                    clear hsz h0
                    cases hf : y.full with
                    | true =>
                      rw [hf] at x2
                      cases g with
                      | true =>
                        have HV : Hid (true = (G0 && (zs.take (i + 1)).all (okZn size))) := Lib.hid (HGA.out _ (by rw [HZ.out, hd1, hd2, hf]; rfl))
                        have HN2 : Hid (m = openN (zs.take (i + 1))) := Lib.hid (by rw [HS.out, ← HN.out, HOP.out, hf, hd3]; rfl)
                        clear HZ HOP HGA HS hd1 hd2 hd3 hf
                        go_wp2_with fail
                        go_roundw
                        case rel => exact ⟨i + 1, m, true, by omega, by go_num, by go_num, rfl, HV, HN2, by omega, qq⟩
                        case measure => simp [intOf]; omega
                      | false =>
                        have HV : Hid (false = (G0 && (zs.take (i + 1)).all (okZn size))) := Lib.hid (HGA.out _ (by rw [HZ.out, hd1, hd2, hf]; rfl))
                        have HN2 : Hid (m = openN (zs.take (i + 1))) := Lib.hid (by rw [HS.out, ← HN.out, HOP.out, hf, hd3]; rfl)
                        clear HZ HOP HGA HS hd1 hd2 hd3 hf
                        go_wp2_with fail
                        go_roundw
                        case rel => exact ⟨i + 1, m, false, by omega, by go_num, by go_num, rfl, HV, HN2, by omega, qq⟩
                        case measure => simp [intOf]; omega
                    | false =>
                      rw [hf] at x2
                      cases g with
                      | true =>
                        have HV : Hid (true = (G0 && (zs.take (i + 1)).all (okZn size))) := Lib.hid (HGA.out _ (by rw [HZ.out, hd1, hd2, hf]; rfl))
                        have HN2 : Hid (m + 1 = openN (zs.take (i + 1))) := Lib.hid (by rw [HS.out, ← HN.out, HOP.out, hf, hd3]; rfl)
                        clear HZ HOP HGA HS hd1 hd2 hd3 hf
                        go_wp2_with fail
                        go_roundw
                        case rel => exact ⟨i + 1, m + 1, true, by omega, by go_num, by go_num, rfl, HV, HN2, by omega, qq⟩
                        case measure => simp [intOf]; omega
                      | false =>
                        have HV : Hid (false = (G0 && (zs.take (i + 1)).all (okZn size))) := Lib.hid (HGA.out _ (by rw [HZ.out, hd1, hd2, hf]; rfl))
                        have HN2 : Hid (m + 1 = openN (zs.take (i + 1))) := Lib.hid (by rw [HS.out, ← HN.out, HOP.out, hf, hd3]; rfl)
                        clear HZ HOP HGA HS hd1 hd2 hd3 hf
                        go_wp2_with fail
                        go_roundw
                        case rel => exact ⟨i + 1, m + 1, false, by omega, by go_num, by go_num, rfl, HV, HN2, by omega, qq⟩
                        case measure => simp [intOf]; omega
      · have h2 : ¬ (i : Int) < (zs.length : Int) := by omega
        rw [List.take_of_length_le (by omega)] at HG HN
        cases g with
        | false =>
          have HV := Lib.hid (HF.out rfl)
          clear HF
          go_wp2_with fail
          go_ret
          exact ⟨by rw [HV.out]; rfl, Q0.out.trans q⟩
        | true =>
          clear HF
          by_cases hmo : (m : Int) ≤ mo
          · have HV : Hid (mayD ⟨zs, size, mo, fuel, off, bad⟩ = true) := Lib.hid (by rw [HM.out, ← HG.out, ← HN.out]; simpa using hmo)
            go_wp2_with fail
            go_ret
            exact ⟨by rw [HV.out]; rfl, Q0.out.trans q⟩
          · have HV : Hid (mayD ⟨zs, size, mo, fuel, off, bad⟩ = false) := Lib.hid (by rw [HM.out, ← HG.out, ← HN.out]; simpa using hmo)
            go_wp2_with fail
            go_ret
            exact ⟨by rw [HV.out]; rfl, Q0.out.trans q⟩
end Go.Proofs.Yteoondmakdghhaa

namespace Go.Proofs.Yteoondmakdghhaa
set_option maxRecDepth 100000
open Go.ChangeShapes Go.WideShapes Go.ChangeAt Go.RowKit
set_option linter.unusedVariables false
set_option linter.unusedSimpArgs false
theorem tkV {P : Program} {ops : Array Oper} {Q : Exit → Act → World → Prop} {md : Region.Mode} {S : World → Prop} {G : Prop} (i : Nat) {v : Value} {oi : Oper} {fuel : Nat} {listed : Array Bool} {a : Act} {w : World} (h : G) (hi : ops[i]? = some oi := by rfl)
    (hs : Region.noSelect ops = true := by kernel_rfl) (hf : Region.free md ops listed i = true := by kernel_rfl) (hr : (Region.ready md ops listed).contains i = true := by kernel_rfl) (hw : Region.wanted oi (yielded ops a.tmps) = true := by rfl) (hS : S w := by assumption) (hv : ∀ x, S x → (execOp a.eval oi).run P x = .ok (.value v) x := by (intro wx hSw; (try dsimp only at hSw); go_simp; (try with_reducible rfl))) (hQ : ∀ c a w, Q (.panic c) (a.put oi.dst v) w → Q (.panic c) a w := by exact fun _ _ _ h => h) (hg : wpAnyH P md ops Q S fuel (listed.setIfInBounds i true) (a.put oi.dst v) w = G := by ((try simp only [Act.put, PS]); rfl)) : wpAnyH P md ops Q S (fuel + 1) listed a w :=
  wpAnyH_take hi hs hf hr hQ (Or.inl ⟨hw, hv⟩) hS (Eq.mpr hg h)
theorem tkB {P : Program} {ops : Array Oper} {Q : Exit → Act → World → Prop} {md : Region.Mode} {S : World → Prop} {G : Prop} (i : Nat) (v : Value) {oi : Oper} {fuel : Nat} {listed : Array Bool} {a : Act} {w : World} (h : G) (hi : ops[i]? = some oi := by rfl)
    (hs : Region.noSelect ops = true := by kernel_rfl) (hf : Region.free md ops listed i = true := by kernel_rfl) (hr : (Region.ready md ops listed).contains i = true := by kernel_rfl) (hw : Region.wanted oi (yielded ops a.tmps) = true := by rfl) (hS : S w := by assumption) (hv : ∀ x, S x → (execOp a.eval oi).run P x = .ok (.value v) x := by (intro wx hSw; (try dsimp only at hSw); go_simp; (try omega); (try simp [*]); (try omega))) (hQ : ∀ c a w, Q (.panic c) (a.put oi.dst v) w → Q (.panic c) a w := by exact fun _ _ _ h => h) (hg : wpAnyH P md ops Q S fuel (listed.setIfInBounds i true) (a.put oi.dst v) w = G := by ((try simp only [Act.put, PS]); rfl)) : wpAnyH P md ops Q S (fuel + 1) listed a w :=
  wpAnyH_take hi hs hf hr hQ (Or.inl ⟨hw, hv⟩) hS (Eq.mpr hg h)
theorem tkU {P : Program} {ops : Array Oper} {Q : Exit → Act → World → Prop} {md : Region.Mode} {S : World → Prop} {G : Prop} (i : Nat) {oi : Oper} {fuel : Nat} {listed : Array Bool} {a : Act} {w : World} (h : G) (hi : ops[i]? = some oi := by rfl)
    (hs : Region.noSelect ops = true := by kernel_rfl) (hf : Region.free md ops listed i = true := by kernel_rfl) (hr : (Region.ready md ops listed).contains i = true := by kernel_rfl) (hw : Region.wanted oi (yielded ops a.tmps) = false := by rfl) (hS : S w := by assumption) (hQ : ∀ c a w, Q (.panic c) (a.put oi.dst undef) w → Q (.panic c) a w := by exact fun _ _ _ h => h) (hg : wpAnyH P md ops Q S fuel (listed.setIfInBounds i true) (a.put oi.dst undef) w = G := by ((try simp only [Act.put, PS]); rfl)) : wpAnyH P md ops Q S (fuel + 1) listed a w :=
  wpAnyH_take hi hs hf hr hQ (Or.inr ⟨hw, rfl⟩) hS (Eq.mpr hg h)
theorem aR {P : Program} {ops : Array Oper} {Q : Exit → Act → World → Prop} {md : Region.Mode} {S : World → Prop} {fuel : Nat} {listed : Array Bool} {a : Act} {w : World} (rs : List Nat) (h : AllReadyH P md ops Q S fuel listed a w rs) (hr : Region.ready md ops listed = rs := by kernel_rfl) (hne : rs ≠ [] := by simp) : wpAnyH P md ops Q S (fuel + 1) listed a w := wpAnyH_ready hr hne h
theorem pg {A G : Prop} (h : G) (hg : A = G := by ((try simp only [Act.put, PS]); rfl)) : A := Eq.mpr hg h
end Go.Proofs.Yteoondmakdghhaa

namespace Go.Proofs.Yteoondmakdghhaa
set_option maxRecDepth 100000
open Go.ChangeShapes Go.WideShapes Go.ChangeAt Go.RowKit
set_option linter.unusedVariables false
set_option linter.unusedSimpArgs false
set_option maxRecDepth 100000
def znV (z : Zn) (u : Value) : Value := .agg #[u, .int .i64 z.firm, .bool z.full]
def emptyZ (z : Zn) : Bool := decide (z.b.length = 0) && !z.full
def filledZ (n : Int) (z : Zn) : Bool := if z.b.length = 0 then !z.full else if (z.b.length : Int) = n then z.full else true
set_option maxHeartbeats 4000000 in
theorem empZ_any (z : Zn) (A : Option Addr) (c : Nat) (w : World) : Calls Try.prog 38 #[znV z (.slice A z.b.length c)] w fun e w' => e = .returned (.bool (emptyZ z)) ∧ Q w w' := by
  rw [znV]
  have q0 := (Q.refl w).alloc (.cells #[.slice A z.b.length c, .int .i64 z.firm, .bool z.full] 45)
  by_cases h : z.b.length = 0
  · have HV : Hid ((!z.full) = emptyZ z) := Lib.hid (by simp [emptyZ, h])
    generalize z.b.length = K at h q0 ⊢
    subst h
    go_enter Try.func38, Try.ntmps38
    go_wp2
    go_ret
    exact ⟨by rw [← HV.out]; first | rfl | simp, q0⟩
  · have HV : Hid (false = emptyZ z) := Lib.hid (by simp [emptyZ, h])
    have h' : ((z.b.length : Int) == 0) = false := by rw [beq_eq_false_iff_ne]; omega
    have h2 : decide (z.b.length = 0) = false := by simpa using h
    go_enter Try.func38, Try.ntmps38
    go_wp2
    go_ret
    exact ⟨by rw [← HV.out]; rfl, q0⟩
set_option maxHeartbeats 4000000 in
theorem opnZ_any (z : Zn) (A : Option Addr) (c : Nat) (w : World) : Calls Try.prog 41 #[znV z (.slice A z.b.length c)] w fun e w' => e = .returned (.bool (isOpen z)) ∧ Q w w' := by
  rw [znV]
  have q0 := (Q.refl w).alloc (.cells #[.slice A z.b.length c, .int .i64 z.firm, .bool z.full] 45)
  by_cases h : 0 < z.b.length
  · have HV : Hid ((!z.full) = isOpen z) := Lib.hid (by simp [isOpen, h])
    have h' : (0 : Int) < (z.b.length : Int) := by omega
    go_enter Try.func41, Try.ntmps41
    go_wp2
    go_ret
    exact ⟨by rw [← HV.out]; first | rfl | simp, q0⟩
  · have HV : Hid (false = isOpen z) := Lib.hid (by simp [isOpen, h])
    have h' : ¬ (0 : Int) < (z.b.length : Int) := by omega
    have h2 : decide (0 < z.b.length) = false := by simpa using h
    go_enter Try.func41, Try.ntmps41
    go_wp2
    go_ret
    exact ⟨by rw [← HV.out]; rfl, q0⟩
set_option maxHeartbeats 4000000 in
theorem filZ_any (z : Zn) (n : Int) (A : Option Addr) (c : Nat) (w : World) : Calls Try.prog 45 #[znV z (.slice A z.b.length c), .int .i64 n] w fun e w' => e = .returned (.bool (filledZ n z)) ∧ Q w w' := by
  rw [znV]
  have q0 := (Q.refl w).alloc (.cells #[.slice A z.b.length c, .int .i64 z.firm, .bool z.full] 45)
  by_cases h : z.b.length = 0
  · have HV : Hid ((!z.full) = filledZ n z) := Lib.hid (by simp [filledZ, h])
    generalize z.b.length = K at h q0 ⊢
    subst h
    go_enter Try.func45, Try.ntmps45
    go_wp2
    go_ret
    exact ⟨by rw [← HV.out]; first | rfl | simp, q0⟩
  · have h' : ((z.b.length : Int) == 0) = false := by rw [beq_eq_false_iff_ne]; omega
    have h2 : decide (z.b.length = 0) = false := by simpa using h
    by_cases k : (z.b.length : Int) = n
    · have HV : Hid (z.full = filledZ n z) := Lib.hid (by simp [filledZ, h, k])
      have k2 : ((z.b.length : Int) == n) = true := by simpa using k
      clear h k
      go_enter Try.func45, Try.ntmps45
      go_wp2
      go_ret
      exact ⟨by rw [← HV.out]; first | rfl | simp, q0⟩
    · have HV : Hid (true = filledZ n z) := Lib.hid (by simp [filledZ, h, k])
      have k2 : ((z.b.length : Int) == n) = false := by simpa using k
      clear h
      go_enter Try.func45, Try.ntmps45
      go_wp2
      go_ret
      exact ⟨by rw [← HV.out]; rfl, q0⟩
set_option maxHeartbeats 4000000 in
theorem opened_any (l : List Zn) (v : Value) (w : World) (hl : l.length ≤ 100000) (ht : Zns w w.heap.size v l) :
    Calls Try.prog 35 #[v] w fun e w' => e = .returned (.int .i64 (openN l : Nat)) ∧ Q w w' := by
  obtain ⟨A0, c0, rfl⟩ := ht.form
  have HT := Lib.hid ht
  clear ht
  go_enter Try.func35, Try.ntmps35
  go_wp2_with fail
  go_loopw [3, 8] (fun N I wr => ∃ i m : Nat, i ≤ l.length ∧ I = .int .i64 i ∧ N = .int .i64 m ∧ Hid (m = openN (l.take i)) ∧ m ≤ i ∧ Q w wr) (fun _ I _ => l.length - (intOf I).toNat)
  case atStart => exact ⟨0, 0, Nat.zero_le _, rfl, rfl, Lib.hid rfl, Nat.le_refl _, Q.refl _⟩
  case round =>
    obtain ⟨i, m, hil, rfl, rfl, HM, hmi, q⟩ := hrel
    by_cases hlt : i < l.length
    · obtain ⟨a, c1, A1, n1, e1, ha, -, hat⟩ := HT.out.pick i hlt
      injection e1 with e1 e2 e3
      subst e1 e3
      obtain ⟨z0, z1, z2, -⟩ := hat wr q
      have HS := Lib.hid (openN_take l i hlt)
      obtain ⟨y, hy⟩ : ∃ y, y = l[i] := ⟨_, rfl⟩
      rw [← hy] at z0 z1 z2 HS
      clear hat hy
      have C := Lib.hid (opnZ_any y A1 n1)
      rw [znV] at C
      have hilt : (i : Int) < (l.length : Int) := by omega
      have q1 : Q w (wr.alloc (.cells #[.slice A1 y.b.length n1, .int .i64 y.firm, .bool y.full] 45)) := q.alloc _
      cases hf : isOpen y with
      | true =>
        have HN : Hid (m + 1 = openN (l.take (i + 1))) := Lib.hid (by rw [HS.out, ← HM.out]; simp [hf])
        rw [hf] at C
        clear hf HS
        go_wp2_with fail
        refine (C.out _).mono ?_
        rintro e w1 ⟨rfl, d1⟩
        go_wp2
        go_roundw
        case rel => exact ⟨i + 1, m + 1, by omega, by go_num, by go_num, HN, by omega, q1.trans d1⟩
        case measure => simp [intOf]; omega
      | false =>
        have HN : Hid (m = openN (l.take (i + 1))) := Lib.hid (by rw [HS.out, ← HM.out]; simp [hf])
        rw [hf] at C
        clear hf HS
        go_wp2_with fail
        refine (C.out _).mono ?_
        rintro e w1 ⟨rfl, d1⟩
        go_wp2
        go_roundw
        case rel => exact ⟨i + 1, m, by omega, by go_num, rfl, HN, by omega, q1.trans d1⟩
        case measure => simp [intOf]; omega
    · obtain rfl : i = l.length := by omega
      have hilt : ¬ (l.length : Int) < (l.length : Int) := by omega
      have HV : Hid (m = openN l) := Lib.hid (by rw [HM.out, List.take_length])
      go_wp2
      go_ret
      exact ⟨by rw [← HV.out]; rfl, q⟩
end Go.Proofs.Yteoondmakdghhaa

namespace Go.Proofs.Yteoondmakdghhaa
set_option maxRecDepth 100000
open Go.ChangeShapes Go.WideShapes Go.ChangeAt Go.RowKit
set_option linter.unusedVariables false
set_option linter.unusedSimpArgs false
set_option maxRecDepth 100000
theorem okZn_filled {n : Int} (hn : 1 ≤ n) (z : Zn) : okZn n z = (frontZ n z && filledZ n z && z.b.all sz64) := by
  rw [okZn_front]
  unfold filledZ
  by_cases h : z.b.length = 0
  · have h2 : ¬ (0 : Int) = n := by omega
    rw [if_pos h, h]
    simp [h2]
    cases frontZ n z <;> cases z.full <;> simp
  · rw [if_neg h]
    by_cases k : (z.b.length : Int) = n
    · rw [if_pos k]; simp [h, k]; cases frontZ n z <;> cases z.full <;> simp
    · rw [if_neg k]; simp [h, k]
set_option maxHeartbeats 8000000 in
theorem nums_any (d : Dv) (A0 : Option Addr) (c0 : Nat) (w : World) : Calls Try.prog 33 #[dvV d (.slice A0 d.zs.length c0)] w fun e w' => e = .returned (.bool (headD d)) ∧ Q w w' := by
  obtain ⟨zs, size, mo, fuel, off, bad⟩ := d
  rw [dvV]
  have HH : Hid (headD ⟨zs, size, mo, fuel, off, bad⟩ = (decide (1 ≤ zs.length) && (decide (zs.length ≤ 40) && (decide (1 ≤ size) && (decide (size ≤ 300) && (decide (1 ≤ mo) && (decide (-1 ≤ fuel) && decide (0 ≤ bad)))))))) := Lib.hid rfl
  simp only at HH ⊢
  generalize headD ⟨zs, size, mo, fuel, off, bad⟩ = G at HH ⊢
  generalize zs.length = n at HH ⊢
  have q0 := (Q.refl w).alloc (.cells #[.slice A0 n c0, .int .i64 size, .int .i64 mo, .int .i64 fuel, .bool off, .int .i64 bad] 24)
  by_cases h0 : 1 ≤ n
  · have j0 : ¬ (n : Int) < 1 := by omega
    by_cases h1 : n ≤ 40
    · have j1 : ¬ (40 : Int) < (n : Int) := by omega
      by_cases h2 : 1 ≤ size
      · have j2 : ¬ size < 1 := by omega
        by_cases h3 : size ≤ 300
        · have j3 : ¬ 300 < size := by omega
          by_cases h4 : 1 ≤ mo
          · have j4 : 1 ≤ mo := by omega
            by_cases h5 : -1 ≤ fuel
            · have j5 : -1 ≤ fuel := by omega
              by_cases h6 : 0 ≤ bad
              · have j6 : 0 ≤ bad := by omega
                have HG : Hid (G = true) := Lib.hid (by rw [HH.out]; simp [*])
                clear h0 h1 h2 h3 h4 h5 h6
                go_enter Try.func33, Try.ntmps33
                go_wp2
                go_ret
                exact ⟨by rw [HG.out]; rfl, q0⟩
              · have j6 : ¬ 0 ≤ bad := by omega
                have HG : Hid (G = false) := Lib.hid (by rw [HH.out]; simp [*])
                clear h0 h1 h2 h3 h4 h5 h6
                go_enter Try.func33, Try.ntmps33
                go_wp2
                go_ret
                exact ⟨by rw [HG.out]; rfl, q0⟩
            · have j5 : ¬ -1 ≤ fuel := by omega
              have HG : Hid (G = false) := Lib.hid (by rw [HH.out]; simp [*])
              clear h0 h1 h2 h3 h4 h5
              go_enter Try.func33, Try.ntmps33
              go_wp2
              go_ret
              exact ⟨by rw [HG.out]; rfl, q0⟩
          · have j4 : ¬ 1 ≤ mo := by omega
            have HG : Hid (G = false) := Lib.hid (by rw [HH.out]; simp [*])
            clear h0 h1 h2 h3 h4
            go_enter Try.func33, Try.ntmps33
            go_wp2
            go_ret
            exact ⟨by rw [HG.out]; rfl, q0⟩
        · have j3 : 300 < size := by omega
          have HG : Hid (G = false) := Lib.hid (by rw [HH.out]; simp [*])
          clear h0 h1 h2 h3
          go_enter Try.func33, Try.ntmps33
          go_wp2
          go_ret
          exact ⟨by rw [HG.out]; rfl, q0⟩
      · have j2 : size < 1 := by omega
        have HG : Hid (G = false) := Lib.hid (by rw [HH.out]; simp [*])
        clear h0 h1 h2
        go_enter Try.func33, Try.ntmps33
        go_wp2
        go_ret
        exact ⟨by rw [HG.out]; rfl, q0⟩
    · have j1 : (40 : Int) < (n : Int) := by omega
      have HG : Hid (G = false) := Lib.hid (by rw [HH.out]; simp [*])
      clear h0 h1
      go_enter Try.func33, Try.ntmps33
      go_wp2
      go_ret
      exact ⟨by rw [HG.out]; rfl, q0⟩
  · have j0 : (n : Int) < 1 := by omega
    have HG : Hid (G = false) := Lib.hid (by rw [HH.out]; simp [*])
    clear h0
    go_enter Try.func33, Try.ntmps33
    go_wp2
    go_ret
    exact ⟨by rw [HG.out]; rfl, q0⟩
set_option maxHeartbeats 4000000 in
theorem hasZ_any (d : Dv) (z : Int) (A0 : Option Addr) (c0 : Nat) (w : World) : Calls Try.prog 25 #[dvV d (.slice A0 d.zs.length c0), .int .i64 z] w fun e w' => e = .returned (.bool (decide (hasZ d z))) ∧ Q w w' := by
  obtain ⟨zs, size, mo, fuel, off, bad⟩ := d
  rw [dvV]
  have HH : Hid ((decide (hasZ ⟨zs, size, mo, fuel, off, bad⟩ z)) = (decide (0 ≤ z) && decide (z < (zs.length : Int)))) := Lib.hid (by unfold hasZ; exact Bool.decide_and _ _)
  simp only at HH ⊢
  generalize decide (hasZ ⟨zs, size, mo, fuel, off, bad⟩ z) = G at HH ⊢
  generalize zs.length = n at HH ⊢
  have q0 := (Q.refl w).alloc (.cells #[.slice A0 n c0, .int .i64 size, .int .i64 mo, .int .i64 fuel, .bool off, .int .i64 bad] 24)
  by_cases h0 : 0 ≤ z
  · by_cases h1 : z < (n : Int)
    · have HG : Hid (G = true) := Lib.hid (by rw [HH.out]; simp [*])
      go_enter Try.func25, Try.ntmps25
      go_wp2
      go_ret
      exact ⟨by rw [HG.out]; rfl, q0⟩
    · have HG : Hid (G = false) := Lib.hid (by rw [HH.out]; simp [*])
      go_enter Try.func25, Try.ntmps25
      go_wp2
      go_ret
      exact ⟨by rw [HG.out]; rfl, q0⟩
  · have HG : Hid (G = false) := Lib.hid (by rw [HH.out]; simp [*])
    go_enter Try.func25, Try.ntmps25
    go_wp2
    go_ret
    exact ⟨by rw [HG.out]; rfl, q0⟩
set_option maxHeartbeats 8000000 in
theorem zoneMay_any (z : Zn) (n : Int) (v : Value) (w : World) (hn : 1 ≤ n) (hl : z.b.length ≤ 100000) (ht : Blks w w.heap.size v z.b) : Calls Try.prog 34 #[znV z v, .int .i64 n] w fun e w' => e = .returned (.bool (okZn n z)) ∧ Q w w' := by
  obtain ⟨A, c, rfl⟩ := ht.form
  have HT := Lib.hid ht
  clear ht
  have CF := Lib.hid (fun (x : World) => filZ_any z n A c x)
  have HO := Lib.hid (okZn_filled hn z)
  generalize okZn n z = G at HO ⊢
  generalize filledZ n z = F at HO CF
  obtain ⟨bs, firm, full⟩ := z
  rw [znV] at CF ⊢
  simp only at hl HT CF HO ⊢
  have q0 := (Q.refl w).alloc (.cells #[.slice A bs.length c, .int .i64 firm, .bool full] 45)
  have HF : Hid (frontZ n ⟨bs, firm, full⟩ = (decide ((bs.length : Int) ≤ n) && (decide (0 ≤ firm) && decide (firm ≤ bs.length)))) := Lib.hid rfl
  generalize frontZ n ⟨bs, firm, full⟩ = R at HF HO
  by_cases h0 : (bs.length : Int) ≤ n
  · have j0 : ¬ n < (bs.length : Int) := by omega
    by_cases h1 : 0 ≤ firm
    · have j1 : ¬ firm < 0 := by omega
      by_cases h2 : firm ≤ (bs.length : Int)
      · have j2 : ¬ (bs.length : Int) < firm := by omega
        have HR : Hid (R = true) := Lib.hid (by rw [HF.out]; simp [*])
        cases F with
        | false =>
          have HG : Hid (G = false) := Lib.hid (by rw [HO.out]; simp)
          go_enter Try.func34, Try.ntmps34
          go_wp2_with fail
          refine (CF.out _).mono ?_
          rintro e w1 ⟨rfl, d1⟩
          go_wp2
          go_ret
          exact ⟨by rw [HG.out]; rfl, q0.trans d1⟩
        | true =>
          have HG : Hid (G = bs.all sz64) := Lib.hid (by rw [HO.out, HR.out]; simp)
          clear h0 h1 h2
          go_enter Try.func34, Try.ntmps34
          go_wp2_with fail
          refine (CF.out _).mono ?_
          rintro e w1 ⟨rfl, d1⟩
          have q1 := q0.trans d1
          clear q0
          have b0 : w1.cell? ⟨w.heap.size, 0, none⟩ = some (.slice A bs.length c) := ((Bx.new w 45 #[.slice A bs.length c, .int .i64 firm, .bool full]).on d1).cell 0
          go_wp2_with fail
          go_loopw [34] (fun I wr => ∃ i : Nat, i ≤ bs.length ∧ I = .int .i64 i ∧ Hid ((bs.take i).all sz64 = true) ∧ Q w wr) (fun I _ => bs.length - (intOf I).toNat)
          case atStart => exact ⟨0, Nat.zero_le _, rfl, Lib.hid rfl, q1⟩
          case round =>
            obtain ⟨i, hil, rfl, HS, q⟩ := hrel
            clear q1 b0
            by_cases hlt : i < bs.length
            · obtain ⟨A', c', e1, -, -, f⟩ := HT.out
              injection e1 with e1 e2 e3
              subst e1 e3
              obtain ⟨a, rfl, ha, hc⟩ := f i hlt
              have z0 : wr.cell? (a.add i) = some (.string bs[i]) := (q.cell (by rw [add_block]; exact ha)).trans hc
              have HN := Lib.hid (all_take sz64 bs i hlt)
              have HB : Hid (bs[i] ∈ bs) := Lib.hid (List.getElem_mem hlt)
              obtain ⟨s, hs⟩ : ∃ s, s = bs[i] := ⟨_, rfl⟩
              rw [← hs] at z0 HN HB
              clear f hc hs
              have hilt : (i : Int) < (bs.length : Int) := by omega
              by_cases h64 : s.size = 64
              · have H2 : Hid ((bs.take (i + 1)).all sz64 = true) := Lib.hid (by rw [HN.out, HS.out]; simp [sz64, h64])
                have k64 : ((s.size : Int) != 64) = false := by simp; omega
                clear h64
                go_wp2_with fail
                go_roundw
                case rel => exact ⟨i + 1, by omega, by go_num, H2, q⟩
                case measure => simp [intOf]; omega
              · have HV : Hid (G = false) := Lib.hid (by
                  rw [HG.out, List.all_eq_false]
                  exact ⟨s, HB.out, by simp [sz64, h64]⟩)
                have k64 : ((s.size : Int) != 64) = true := by simp; omega
                clear h64
                go_wp2
                go_ret
                exact ⟨by rw [HV.out]; rfl, q⟩
            · obtain rfl : i = bs.length := by omega
              have hilt : ¬ (bs.length : Int) < (bs.length : Int) := by omega
              have HV : Hid (G = true) := Lib.hid (by rw [HG.out]; have := HS.out; rwa [List.take_length] at this)
              go_wp2
              go_ret
              exact ⟨by rw [HV.out]; rfl, q⟩
      · have j2 : (bs.length : Int) < firm := by omega
        have HR : Hid (R = false) := Lib.hid (by rw [HF.out]; simp [*])
        have HG : Hid (G = false) := Lib.hid (by rw [HO.out, HR.out]; simp)
        go_enter Try.func34, Try.ntmps34
        go_wp2
        go_ret
        exact ⟨by rw [HG.out]; rfl, q0⟩
    · have j1 : firm < 0 := by omega
      have HR : Hid (R = false) := Lib.hid (by rw [HF.out]; simp [*])
      have HG : Hid (G = false) := Lib.hid (by rw [HO.out, HR.out]; simp)
      go_enter Try.func34, Try.ntmps34
      go_wp2
      go_ret
      exact ⟨by rw [HG.out]; rfl, q0⟩
  · have j0 : n < (bs.length : Int) := by omega
    have HR : Hid (R = false) := Lib.hid (by rw [HF.out]; simp [*])
    have HG : Hid (G = false) := Lib.hid (by rw [HO.out, HR.out]; simp)
    go_enter Try.func34, Try.ntmps34
    go_wp2
    go_ret
    exact ⟨by rw [HG.out]; rfl, q0⟩
end Go.Proofs.Yteoondmakdghhaa

namespace Go.Proofs.Yteoondmakdghhaa
set_option maxRecDepth 100000
open Go.ChangeShapes Go.WideShapes Go.ChangeAt Go.RowKit
set_option linter.unusedVariables false
set_option linter.unusedSimpArgs false
set_option maxRecDepth 100000
/-- A device that is small enough to be looked at. -/
def smD (d : Dv) : Prop := d.zs.length ≤ 100000 ∧ ∀ z ∈ d.zs, z.b.length ≤ 100000
set_option maxHeartbeats 8000000 in
theorem mayZ_any (d : Dv) (u : Value) (w : World) (hd : smD d) (ht : Zns w w.heap.size u d.zs) : Calls Try.prog 21 #[dvV d u] w fun e w' => e = .returned (.bool (mayD d)) ∧ Q w w' := by
  obtain ⟨A0, c0, rfl⟩ := ht.form
  have HT := Lib.hid ht
  have CN := Lib.hid (fun x => nums_any d A0 c0 x)
  have HM := Lib.hid (mayD_head d)
  have HN : Hid (headD d = true → 1 ≤ d.size) := Lib.hid (fun h => by unfold headD at h; simp at h; omega)
  have CO := Lib.hid (fun (x : World) (q : Q w x) => opened_any d.zs _ x hd.1 (ht.on q))
  have HL := Lib.hid hd.2
  obtain ⟨hl, -⟩ := hd
  clear ht
  generalize mayD d = G at HM ⊢
  generalize headD d = B at HM HN CN
  obtain ⟨zs, size, mo, fuel, off, bad⟩ := d
  rw [dvV] at CN ⊢
  simp only at hl HT CN HM HN CO HL ⊢
  have bx := Bx.new w 24 #[.slice A0 zs.length c0, .int .i64 size, .int .i64 mo, .int .i64 fuel, .bool off, .int .i64 bad]
  have q0 := (Q.refl w).alloc (.cells #[.slice A0 zs.length c0, .int .i64 size, .int .i64 mo, .int .i64 fuel, .bool off, .int .i64 bad] 24)
  obtain ⟨W0, hW0⟩ : ∃ z, z = w.alloc (.cells #[.slice A0 zs.length c0, .int .i64 size, .int .i64 mo, .int .i64 fuel, .bool off, .int .i64 bad] 24) := ⟨_, rfl⟩
  rw [← hW0] at bx q0
  have BX := Lib.hid bx
  have Q0 := Lib.hid q0
  obtain ⟨x0, x1, x2, x3, x4, x5⟩ : W0.cell? ⟨w.heap.size, 0, none⟩ = some (.slice A0 zs.length c0) ∧ W0.cell? ⟨w.heap.size, 1, none⟩ = some (.int .i64 size) ∧ W0.cell? ⟨w.heap.size, 2, none⟩ = some (.int .i64 mo) ∧ W0.cell? ⟨w.heap.size, 3, none⟩ = some (.int .i64 fuel) ∧ W0.cell? ⟨w.heap.size, 4, none⟩ = some (.bool off) ∧ W0.cell? ⟨w.heap.size, 5, none⟩ = some (.int .i64 bad) := ⟨bx.cell 0, bx.cell 1, bx.cell 2, bx.cell 3, bx.cell 4, bx.cell 5⟩
  clear bx q0
  go_enter Try.func21, Try.ntmps21
  go_upto_region 1 with fail
  rw [← hW0]
  clear hW0
  go_wp2_with fail
  refine (CN.out _).mono ?_
  rintro e w1 ⟨rfl, d1⟩
  clear x1 x2 x3 x4 x5
  cases B with
  | false =>
    have HG : Hid (G = false) := Lib.hid (by rw [HM.out]; simp)
    go_wp2
    go_ret
    exact ⟨by rw [HG.out]; rfl, Q0.out.trans d1⟩
  | true =>
    have hn := HN.out rfl
    have x0 : w1.cell? ⟨w.heap.size, 0, none⟩ = some (.slice A0 zs.length c0) := (BX.out.on d1).cell 0
    go_wp2_with fail
    go_loopw [11] (fun I wr => ∃ i : Nat, i ≤ zs.length ∧ I = .int .i64 i ∧ Hid ((zs.take i).all (okZn size) = true) ∧ Q W0 wr) (fun I _ => zs.length - (intOf I).toNat)
    case atStart => exact ⟨0, Nat.zero_le _, rfl, Lib.hid rfl, d1⟩
    case round =>
      obtain ⟨i, hil, rfl, HS, q⟩ := hrel
      clear d1 x0
      have x1 : wr.cell? ⟨w.heap.size, 1, none⟩ = some (.int .i64 size) := (BX.out.on q).cell 1
      by_cases hlt : i < zs.length
      · obtain ⟨a, c1, A1, n1, e1, ha, -, hat⟩ := HT.out.pick i hlt
        injection e1 with e1 e2 e3
        subst e1 e3
        obtain ⟨z0, z1, z2, zb⟩ := hat wr (Q0.out.trans q)
        have HA := Lib.hid (all_take (okZn size) zs i hlt)
        have hy2 := HL.out _ (List.getElem_mem hlt)
        have HB : Hid (zs[i] ∈ zs) := Lib.hid (List.getElem_mem hlt)
        obtain ⟨y, hy⟩ : ∃ y, y = zs[i] := ⟨_, rfl⟩
        rw [← hy] at z0 z1 z2 zb HA hy2 HB
        clear hat hy
        have hilt : (i : Int) < (zs.length : Int) := by omega
        obtain ⟨wa, hwa⟩ : ∃ x, x = wr.alloc (.cells #[.slice A1 y.b.length n1, .int .i64 y.firm, .bool y.full] 45) := ⟨_, rfl⟩
        have qa : Q wr wa := by rw [hwa]; exact (Q.refl wr).alloc _
        have ba := Bx.new wr 45 #[.slice A1 y.b.length n1, .int .i64 y.firm, .bool y.full]
        rw [← hwa] at ba
        have C := Lib.hid (zoneMay_any y size _ wa hn hy2 (zb.on qa))
        rw [znV] at C
        obtain ⟨y0, y1, y2⟩ : wa.cell? ⟨wr.heap.size, 0, none⟩ = some (.slice A1 y.b.length n1) ∧ wa.cell? ⟨wr.heap.size, 1, none⟩ = some (.int .i64 y.firm) ∧ wa.cell? ⟨wr.heap.size, 2, none⟩ = some (.bool y.full) := ⟨ba.cell 0, ba.cell 1, ba.cell 2⟩
        have x1a : wa.cell? ⟨w.heap.size, 1, none⟩ = some (.int .i64 size) := (BX.out.on (q.trans qa)).cell 1
        have QA := Lib.hid qa
        clear zb hy2 qa ba
        rw [hwa] at C y0 y1 y2 x1a QA
        clear hwa wa
        cases hf : okZn size y with
        | true =>
          have HN2 : Hid ((zs.take (i + 1)).all (okZn size) = true) := Lib.hid (by rw [HA.out, HS.out, hf]; rfl)
          rw [hf] at C
          clear hf HA
          go_wp2_with fail
          refine (C.out).mono ?_
          rintro e w2 ⟨rfl, d2⟩
          go_wp2
          go_roundw
          case rel => exact ⟨i + 1, by omega, by go_num, HN2, (q.trans QA.out).trans d2⟩
          case measure => simp [intOf]; omega
        | false =>
          have HG : Hid (G = false) := Lib.hid (by
            rw [HM.out]
            have : zs.all (okZn size) = false := List.all_eq_false.2 ⟨y, HB.out, by rw [hf]; decide⟩
            rw [this]; simp)
          rw [hf] at C
          clear hf HA
          go_wp2_with fail
          refine (C.out).mono ?_
          rintro e w2 ⟨rfl, d2⟩
          go_wp2
          go_ret
          exact ⟨by rw [HG.out]; rfl, Q0.out.trans ((q.trans QA.out).trans d2)⟩
      · obtain rfl : i = zs.length := by omega
        have hilt : ¬ (zs.length : Int) < (zs.length : Int) := by omega
        have x0 : wr.cell? ⟨w.heap.size, 0, none⟩ = some (.slice A0 zs.length c0) := (BX.out.on q).cell 0
        have x2 : wr.cell? ⟨w.heap.size, 2, none⟩ = some (.int .i64 mo) := (BX.out.on q).cell 2
        have HG : Hid (G = decide ((openN zs : Int) ≤ mo)) := Lib.hid (by rw [HM.out]; have := HS.out; rw [List.take_length] at this; rw [this]; rfl)
        generalize openN zs = K at HG CO
        clear HM x1
        have q9 := Q0.out.trans q
        have KS : Hid (∀ x, Q W0 x → (fun W => W.cell? ⟨w.heap.size, 0, none⟩ = some (.slice A0 zs.length c0) ∧ W.cell? ⟨w.heap.size, 2, none⟩ = some (.int .i64 mo)) x) := Lib.hid (fun x q => ⟨(BX.out.on q).cell 0, (BX.out.on q).cell 2⟩)
        go_upto_region 9 with fail
        clear x0 x2
        have q5 := q.drew
        refine wp_region_held_drew (S := fun W => W.cell? ⟨w.heap.size, 0, none⟩ = some (.slice A0 zs.length c0) ∧ W.cell? ⟨w.heap.size, 2, none⟩ = some (.int .i64 mo)) (by kernel_rfl) (KS.out _ q5) (fun hHeld => ?_)
        refine tkV 0 ?_
        refine tkV 1 ?_
        refine tkV 3 ?_
        refine tkV 4 ?_
        refine aR [2] ?_
        refine AllReadyH.cons (o := _) rfl (fun K_ hK => ?_) AllReadyH.nil
        go_simp
        go_at_call 35
        refine (CO.out _ (Q0.out.trans q5)).mono ?_
        rintro e w5 ⟨rfl, d5⟩
        have q6 := q5.trans d5
        refine hK.out _ _ (KS.out _ q6) (fun hHeld2 => ?_)
        clear hK K_
        refine pg ?_
        refine tkB 5 (.bool (decide ((K : Int) ≤ mo))) ?_
        refine tkB 6 (.bool (decide ((K : Int) ≤ mo))) ?_
        refine wpAnyH_done (by kernel_rfl) ?_ _
        go_wp2
        go_ret
        exact ⟨by rw [HG.out]; rfl, Q0.out.trans q6⟩
end Go.Proofs.Yteoondmakdghhaa

