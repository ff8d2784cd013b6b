/-
  Contract of the document's Same.
-/
import Derived.Test.YtlahccmlnbdekaaUSame
namespace Go.Proofs.Ytlahccmlnbdekaa
open Go.ChangeShapes Go.WideShapes Go.ChangeAt Go.RowKit
set_option linter.unusedVariables false
set_option linter.unusedSimpArgs false
set_option maxRecDepth 100000

set_option maxHeartbeats 8000000 in
theorem rsameU_any (a b : List Upl) (va vb : Value) (w : World) (R : Bool) (hR : Chk (a = b) R) (sa : smL a) (sb : smL b) (ha : Upls w w.heap.size va a) (hb : Upls w w.heap.size vb b) :
    Calls Try.prog 18 #[va, vb] w fun e w' => e = .returned (.bool R) ∧ D w w' := by
  have HA := Lib.hid ha
  have HB := Lib.hid hb
  have HR := Lib.hid hR
  have SA := Lib.hid sa
  have SB := Lib.hid sb
  have hl := sa.1
  have hlb := sb.1
  obtain ⟨A, c, rfl⟩ := ha.form
  obtain ⟨B, c', rfl⟩ := hb.form
  clear ha hb hR sa sb
  by_cases he : a.length = b.length
  · have hen : ((a.length : Int) != (b.length : Int)) = false := by simp [he]
    have HE := Lib.hid he
    clear he
    go_enter Try.func18, Try.ntmps18
    go_wp2_with fail
    go_loopw [5, 6] (fun I _ wr => ∃ i : Nat, i ≤ a.length ∧ I = .int .i64 i ∧ D w wr ∧ Hid (a.take i = b.take i)) (fun I _ _ => a.length - (intOf I).toNat)
    case atStart => exact ⟨0, Nat.zero_le _, rfl, D.refl _, Lib.hid (by simp)⟩
    case round =>
      obtain ⟨i, hil, rfl, d, HT⟩ := hrel
      by_cases hlt : i < a.length
      · have hlb2 : i < b.length := by rw [← HE.out]; exact hlt
        obtain ⟨p, c1, hv1, hp, A1, k1, hv, hat⟩ := HA.out.pick i hlt
        obtain ⟨q, c2, hv2, hq, A2, k2, hu, hbt⟩ := HB.out.pick i hlb2
        injection hv1 with e1 e2 e3
        injection hv2 with f1 f2 f3
        subst e1 e3 f1 f3
        obtain ⟨m, rfl⟩ := d
        obtain ⟨d0, d1, d2⟩ := hat w (Q.refl w)
        obtain ⟨g0, g1, g2⟩ := hbt w (Q.refl w)
        have hi1 : (i : Int) < (a.length : Int) := by omega
        have hi2 : (i : Int) < (b.length : Int) := by omega
        have hmx := (SA.out.2 _ (List.getElem_mem hlt)).2.1
        have hmy := (SB.out.2 _ (List.getElem_mem hlb2)).2.1
        have NOE : a[i] ≠ b[i] → R = false := fun h => HR.out.no (uplL_ne hlt hlb2 h)
        have YES : a[i] = b[i] → a.take (i + 1) = b.take (i + 1) := fun h => by rw [List.take_succ_eq_append_getElem hlt, List.take_succ_eq_append_getElem hlb2, HT.out, h]
        obtain ⟨x, hx⟩ : ∃ x, x = a[i] := ⟨_, rfl⟩
        obtain ⟨y, hy⟩ : ∃ y, y = b[i] := ⟨_, rfl⟩
        rw [← hx] at d0 d1 d2 hv hmx NOE YES
        rw [← hy] at g0 g1 g2 hu hmy NOE YES
        clear hat hbt hx hy e2 f2
        obtain ⟨xi, xk, X⟩ := x
        obtain ⟨yi, yk, Y⟩ := y
        simp only at d0 d1 d2 hv hmx g0 g1 g2 hu hmy
        by_cases hi : xi = yi
        · subst hi
          by_cases hk : xk = yk
          · subst hk
            have hb := teq_yes xk
            by_cases hL : X.length = Y.length
            · have HX := Lib.hid hv
              have HY := Lib.hid hu
              have NOE2 := Lib.hid NOE
              have YES2 := Lib.hid YES
              obtain ⟨n, hn⟩ : ∃ n, X.length = n := ⟨_, rfl⟩
              have hn2 : Y.length = n := by rw [← hL]; exact hn
              rw [hn] at d2 hmx
              rw [hn2] at g2 hmy
              have HN := Lib.hid hn
              have HN2 := Lib.hid hn2
              clear hL hn hn2 hv hu NOE YES
              go_wp2_with fail
              go_quiet (fail)
              go_wp2_with fail
              go_loopw [6] (fun J wz => ∃ j : Nat, j ≤ n ∧ J = .int .i64 j ∧ D w wz ∧ Hid (X.take j = Y.take j)) (fun J _ => n - (intOf J).toNat)
              case atStart => exact ⟨0, Nat.zero_le _, rfl, ⟨m + nq, by first | rfl | rw [World.drewN_drewN]⟩, Lib.hid (by simp)⟩
              case round =>
                obtain ⟨j, hjn, rfl, dz, HJ⟩ := hrel
                obtain ⟨m2, rfl⟩ := dz
                by_cases hjl : j < n
                · have hjX : j < X.length := by have := HN.out; omega
                  have hjY : j < Y.length := by have := HN2.out; omega
                  obtain ⟨p3, c3, hv3, hp3, -, hat3⟩ := HX.out.pick j hjX
                  obtain ⟨p4, c4, hv4, hp4, -, hat4⟩ := HY.out.pick j hjY
                  injection hv3 with x1 x2 x3
                  injection hv4 with y1 y2 y3
                  subst x1 x3 y1 y3
                  have hj1 : (j : Int) < (n : Int) := by omega
                  obtain ⟨r0, r1⟩ := hat3 w (Q.refl w)
                  obtain ⟨s0, s1⟩ := hat4 w (Q.refl w)
                  have NO3 : X[j] ≠ Y[j] → R = false := fun h => NOE2.out fun e => prtL_ne hjX hjY h (Upl.mk.inj e).2.2
                  have YES3 : X[j] = Y[j] → X.take (j + 1) = Y.take (j + 1) := fun h => by rw [List.take_succ_eq_append_getElem hjX, List.take_succ_eq_append_getElem hjY, HJ.out, h]
                  obtain ⟨xx, hxx⟩ : ∃ z, z = X[j] := ⟨_, rfl⟩
                  obtain ⟨yy, hyy⟩ : ∃ z, z = Y[j] := ⟨_, rfl⟩
                  rw [← hxx] at r0 r1 NO3 YES3
                  rw [← hyy] at s0 s1 NO3 YES3
                  clear hat3 hat4 hxx hyy x2 y2
                  by_cases hxy : xx = yy
                  · have HT3 := Lib.hid (YES3 hxy)
                    subst hxy
                    clear YES3 NO3
                    go_wp2_with fail
                    go_region
                    go_wp2
                    go_roundw
                    case rel => exact ⟨j + 1, by omega, by go_num, ⟨m2 + 1, by simp [Nat.add_comm]⟩, HT3⟩
                    case measure => simp [intOf]; omega
                  · have HV := Lib.hid (NO3 hxy)
                    have hne := part_ne hxy
                    clear YES3 NO3 hxy
                    obtain ⟨xj, xd⟩ := xx
                    obtain ⟨yj, yd⟩ := yy
                    simp only at r0 r1 s0 s1 hne
                    rcases hne with h | ⟨rfl, h⟩
                    · go_wp2_with fail
                      go_region
                      go_wp2
                      go_ret
                      exact ⟨ret_bool (by rw [HV.out]), (D.drewN ⟨m2, rfl⟩ 1)⟩
                    · have h' : ¬ (xd.toList = yd.toList) := fun e => h (bl_inj (by rw [← toList_bl, ← toList_bl, e]))
                      clear h
                      go_wp2_with fail
                      go_region
                      go_wp2
                      go_ret
                      exact ⟨ret_bool (by rw [HV.out]), (D.drewN ⟨m2, rfl⟩ 1)⟩
                · have HT2 := Lib.hid (YES2.out (by have := HJ.out; rw [List.take_of_length_le (by have := HN.out; omega), List.take_of_length_le (by have := HN2.out; omega)] at this; rw [this]))
                  have hj1 : ¬ (j : Int) < (n : Int) := by omega
                  go_wp2
                  go_roundw
                  case rel => exact ⟨i + 1, by omega, by go_num, ⟨m2, rfl⟩, HT2⟩
                  case measure => simp [intOf]; omega
            · have HV := Lib.hid (NOE fun e => hL (congrArg (fun u => u.L.length) e))
              have hd : ¬ (X.length : Int) = (Y.length : Int) := by omega
              clear NOE YES
              go_wp2_with fail
              go_quiet (fail)
              go_wp2
              go_ret
              exact ⟨ret_bool (by rw [HV.out]), ⟨m + nq, by first | rfl | rw [World.drewN_drewN]⟩⟩
          · have HV := Lib.hid (NOE fun e => hk (congrArg (fun u => u.key) e))
            have h1 := teq_no hk
            have h2 : ¬ xk.toList = yk.toList := by simpa using h1
            clear NOE YES
            go_wp2_with fail
            go_quiet (fail)
            go_wp2
            go_ret
            exact ⟨ret_bool (by rw [HV.out]), ⟨m + nq, by first | rfl | rw [World.drewN_drewN]⟩⟩
        · have HV := Lib.hid (NOE fun e => hi (congrArg (fun u => u.id) e))
          have hd : ((xi : Int) != (yi : Int)) = true := by
            have : ¬ (xi : Int) = (yi : Int) := by omega
            simpa using this
          have hd2 : decide (xi = yi) = false := by simpa using hi
          have hd3 : decide ((xi : Int) = (yi : Int)) = false := by simp only [decide_eq_false_iff_not]; omega
          have hd4 : (xi != yi) = true := by simpa using hi
          clear NOE YES
          go_wp2_with fail
          go_quiet (fail)
          go_wp2
          go_ret
          exact ⟨ret_bool (by rw [HV.out]), ⟨m + nq, by first | rfl | rw [World.drewN_drewN]⟩⟩
      · have HV := Lib.hid (HR.out.yes (by have := HT.out; rw [List.take_of_length_le (by omega), List.take_of_length_le (by have := HE.out; omega)] at this; exact this))
        go_wp2
        go_ret
        exact ⟨ret_bool (by rw [HV.out]), d⟩
  · have HV := Lib.hid (HR.out.no (fun e => he (congrArg List.length e)))
    have hen : ((a.length : Int) != (b.length : Int)) = true := by
      have : ¬ (a.length : Int) = (b.length : Int) := by omega
      simpa using this
    clear he
    go_enter Try.func18, Try.ntmps18
    go_wp2
    go_ret
    exact ⟨ret_bool (by rw [HV.out]), D.refl _⟩
end Go.Proofs.Ytlahccmlnbdekaa
