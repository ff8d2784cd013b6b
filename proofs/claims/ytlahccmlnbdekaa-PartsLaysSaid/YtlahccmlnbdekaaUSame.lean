/-
  Contracts of the program's Same and of the document's.
-/
import Derived.Test.YtlahccmlnbdekaaUFind2
namespace Go.Proofs.Ytlahccmlnbdekaa
open Go.ChangeShapes Go.WideShapes Go.ChangeAt Go.RowKit
set_option linter.unusedVariables false
set_option linter.unusedSimpArgs false
set_option maxRecDepth 100000

theorem teq_no {a b : ByteArray} (h : a ≠ b) : (a.toList == b.toList) = false := by rw [eq_texts]; simpa using h
theorem teq_yes (a : ByteArray) : (a.toList == a.toList) = true := by simp
theorem upl_ext {x y : Upl} (h : x.id = y.id) (k : x.key = y.key) (m : x.L = y.L) : x = y := by
  cases x; cases y; simp only at h k m; rw [h, k, m]
theorem part_ne {x y : Prt} (h : x ≠ y) : x.n ≠ y.n ∨ (x.n = y.n ∧ x.data ≠ y.data) := by
  by_cases e : x.n = y.n
  · right; refine ⟨e, fun k => h ?_⟩; cases x; cases y; simp only at e k; rw [e, k]
  · exact .inl e
theorem uplL_ne {a b : List Upl} {i : Nat} (h : i < a.length) (k : i < b.length) (n : a[i] ≠ b[i]) : a ≠ b := by
  rintro rfl; exact n rfl
theorem prtL_ne {a b : List Prt} {i : Nat} (h : i < a.length) (k : i < b.length) (n : a[i] ≠ b[i]) : a ≠ b := by
  rintro rfl; exact n rfl
set_option maxHeartbeats 4000000 in
theorem equalP_any (a b : List Prt) (va vb : Value) (w : World) (R : Bool) (hR : Chk (a = b) R) (hl : a.length ≤ 1000) (hlb : b.length ≤ 1000) (ha : Prts w w.heap.size va a) (hb : Prts w w.heap.size vb b) :
    Calls Try.prog 46 #[va, vb] w fun e w' => e = .returned (.bool R) ∧ D w w' := by
  have HA := Lib.hid ha
  have HB := Lib.hid hb
  have HR := Lib.hid hR
  obtain ⟨A, c, rfl⟩ := ha.form
  obtain ⟨B, c', rfl⟩ := hb.form
  clear ha hb hR
  by_cases he : a.length = b.length
  · have hen : ((a.length : Int) != (b.length : Int)) = false := by simp [he]
    have HE := Lib.hid he
    clear he
    go_enter Try.func46, Try.ntmps46
    go_wp2_with fail
    go_loopw [5, 13] (fun _ I wr => ∃ i : Nat, i ≤ a.length ∧ I = .int .i64 i ∧ D w wr ∧ Hid (a.take i = b.take i)) (fun _ I _ => a.length - (intOf I).toNat)
    case atStart => exact ⟨0, Nat.zero_le _, rfl, D.refl _, Lib.hid (by simp)⟩
    case round =>
      obtain ⟨i, hil, rfl, d, HT⟩ := hrel
      by_cases hlt : i < a.length
      · have hlb2 : i < b.length := by rw [← HE.out]; exact hlt
        obtain ⟨p, c1, hv1, hp, -, hat⟩ := HA.out.pick i hlt
        obtain ⟨q, c2, hv2, hq, -, hbt⟩ := HB.out.pick i hlb2
        injection hv1 with e1 e2 e3
        injection hv2 with f1 f2 f3
        subst e1 e3 f1 f3
        obtain ⟨m, rfl⟩ := d
        obtain ⟨c0, c1⟩ := hat w (Q.refl w)
        obtain ⟨d0, d1⟩ := hbt w (Q.refl w)
        clear hat hbt
        have h1 : (i : Int) < (a.length : Int) := by omega
        have h2 : (i : Int) < (b.length : Int) := by omega
        by_cases hxy : a[i] = b[i]
        · have HT2 : Hid (a.take (i + 1) = b.take (i + 1)) := Lib.hid (by rw [List.take_succ_eq_append_getElem hlt, List.take_succ_eq_append_getElem hlb2, HT.out, hxy])
          rw [← hxy] at d0 d1
          obtain ⟨x, hx⟩ : ∃ x, x = a[i] := ⟨_, rfl⟩
          rw [← hx] at c0 c1 d0 d1
          clear hx hxy
          go_wp2_with fail
          go_region
          go_wp2
          go_roundw
          case rel => exact ⟨i + 1, by omega, by go_num, ⟨m + 1, by simp [Nat.add_comm]⟩, HT2⟩
          case measure => simp [intOf]; omega
        · have HV := Lib.hid (HR.out.no (prtL_ne hlt hlb2 hxy))
          have hne := part_ne hxy
          obtain ⟨x, hx⟩ : ∃ x, x = a[i] := ⟨_, rfl⟩
          obtain ⟨y, hy⟩ : ∃ y, y = b[i] := ⟨_, rfl⟩
          rw [← hx] at c0 c1 hne
          rw [← hy] at d0 d1 hne
          clear hx hy hxy
          obtain ⟨xi, xd⟩ := x
          obtain ⟨yi, yd⟩ := y
          simp only at c0 c1 d0 d1 hne
          rcases hne with h | ⟨rfl, h⟩
          · go_wp2_with fail
            go_region
            go_wp2
            go_ret
            exact ⟨ret_bool (by rw [HV.out]), (D.drewN ⟨m, rfl⟩ 1)⟩
          · have h' : ¬ (xd.toList = yd.toList) := fun e => h (bl_inj (by rw [← toList_bl, ← toList_bl, e]))
            clear h
            go_wp2_with fail
            go_region
            go_wp2
            go_ret
            exact ⟨ret_bool (by rw [HV.out]), (D.drewN ⟨m, rfl⟩ 1)⟩
      · have HV := Lib.hid (HR.out.yes (by have := HT.out; rw [List.take_of_length_le (by omega), List.take_of_length_le (by have := HE.out; omega)] at this; exact this))
        go_wp2
        go_ret
        exact ⟨ret_bool (by rw [HV.out]), d⟩
  · have HV := Lib.hid (HR.out.no (fun e => he (congrArg List.length e)))
    have hen : ((a.length : Int) != (b.length : Int)) = true := by
      have : ¬ (a.length : Int) = (b.length : Int) := by omega
      simpa using this
    clear he
    go_enter Try.func46, Try.ntmps46
    go_wp2
    go_ret
    exact ⟨ret_bool (by rw [HV.out]), D.refl _⟩

/-- The closure of the program's Same. -/
theorem sameU1_any (x y : Upl) (A1 A2 : Option Addr) (k1 k2 : Nat) (R : Bool) (hR : Chk (x = y) R) (w : World) (h1 : x.L.length ≤ 1000) (h2 : y.L.length ≤ 1000) (t1 : Prts w w.heap.size (.slice A1 x.L.length k1) x.L) (t2 : Prts w w.heap.size (.slice A2 y.L.length k2) y.L) :
    Calls Try.prog 45 #[upl x (.slice A1 x.L.length k1), upl y (.slice A2 y.L.length k2)] w fun e w' => e = .returned (.bool R) ∧ Q w w' := by
  have q2 := ((Q.refl w).alloc (.cells #[.int .u64 (x.id : Nat), .string x.key, .slice A1 x.L.length k1] 40)).alloc (.cells #[.int .u64 (y.id : Nat), .string y.key, .slice A2 y.L.length k2] 40)
  simp only [upl]
  by_cases hi : x.id = y.id
  · by_cases hk : x.key = y.key
    · obtain ⟨S, hS⟩ := chk_ex (x.L = y.L)
      have hSR : S = R := by
        rcases hS with ⟨rfl, h⟩ | ⟨rfl, h⟩
        · exact (hR.yes (upl_ext hi hk h)).symm
        · exact (hR.no fun e => h (by rw [e])).symm
      subst hSR
      have C := Lib.hid (equalP_any x.L y.L _ _ _ S hS h1 h2 (t1.on q2) (t2.on q2))
      have hb := teq_yes y.key
      rw [hk, hi] at q2 C ⊢
      obtain ⟨L1, hL1⟩ : ∃ L, L = x.L.length := ⟨_, rfl⟩
      obtain ⟨L2, hL2⟩ : ∃ L, L = y.L.length := ⟨_, rfl⟩
      rw [← hL1, ← hL2] at q2 C ⊢
      clear hL1 hL2 hk hi hR hS t1 t2 h1 h2
      cases S with
      | true =>
        go_enter Try.func45, Try.ntmps45
        go_wp2_with fail
        refine (C.out).mono ?_
        rintro e w1 ⟨rfl, d1⟩
        go_wp2
        go_ret
        exact ⟨rfl, q2.trans d1.q⟩
      | false =>
        go_enter Try.func45, Try.ntmps45
        go_wp2_with fail
        refine (C.out).mono ?_
        rintro e w1 ⟨rfl, d1⟩
        go_wp2
        go_ret
        exact ⟨rfl, q2.trans d1.q⟩
    · obtain rfl := hR.no fun e => hk (by rw [e])
      have hb := teq_no hk
      have hb2 : ¬ x.key.toList = y.key.toList := by simpa using hb
      have HQ := Lib.hid q2
      have hd : decide ((x.id : Int) = (y.id : Int)) = true := by simp [hi]
      rw [hi] at *
      clear hk hR t1 t2 q2 hd
      go_enter Try.func45, Try.ntmps45
      go_wp2
      go_ret
      exact ⟨rfl, HQ.out⟩
  · obtain rfl := hR.no fun e => hi (by rw [e])
    have hd : ¬ (x.id : Int) = (y.id : Int) := by omega
    have HQ := Lib.hid q2
    clear hR t1 t2 q2
    go_enter Try.func45, Try.ntmps45
    go_wp2
    go_ret
    exact ⟨rfl, HQ.out⟩
theorem eg_sameU : ∀ args w, (callFunc 45 args).run Try.prog w = .ok (.enter 45 args) w := enters_of Try.func45 (by kernel_rfl) rfl
set_option maxHeartbeats 4000000 in
theorem equalFuncU_any (g : Nat) (eg : ∀ args w, (callFunc g args).run Try.prog w = .ok (.enter g args) w) (a b : List Upl) (va vb : Value) (w : World) (R : Bool) (hR : Chk (a = b) R) (sa : smL a) (sb : smL b) (ha : Upls w w.heap.size va a) (hb : Upls w w.heap.size vb b)
    (hp : ∀ (x y : Upl) (A1 A2 : Option Addr) (k1 k2 : Nat) (S : Bool) (hS : Chk (x = y) S) (d : World) (h1 : x.L.length ≤ 1000) (h2 : y.L.length ≤ 1000) (t1 : Prts d d.heap.size (.slice A1 x.L.length k1) x.L) (t2 : Prts d d.heap.size (.slice A2 y.L.length k2) y.L),
      Calls Try.prog g #[upl x (.slice A1 x.L.length k1), upl y (.slice A2 y.L.length k2)] d fun e w' => e = .returned (.bool S) ∧ Q d w') :
    Calls Try.prog 44 #[va, vb, .func (.func g) #[] #[]] w fun e w' => e = .returned (.bool R) ∧ Q w w' := by
  have HA := Lib.hid ha
  have HB := Lib.hid hb
  have HR := Lib.hid hR
  have SA := Lib.hid sa
  have SB := Lib.hid sb
  have HP := Lib.hid hp
  have hl := sa.1
  have hlb := sb.1
  obtain ⟨A, c, rfl⟩ := ha.form
  obtain ⟨B, c', rfl⟩ := hb.form
  clear ha hb hR sa sb hp
  by_cases he : a.length = b.length
  · have hen : ((a.length : Int) != (b.length : Int)) = false := by simp [he]
    have HE := Lib.hid he
    clear he
    go_enter Try.func44, Try.ntmps44
    go_wp2_with fail
    go_loopw [7, 8, 9, 17] (fun _ _ _ I wr => ∃ i : Nat, i ≤ a.length ∧ I = .int .i64 i ∧ Q w wr ∧ Hid (a.take i = b.take i)) (fun _ _ _ I _ => a.length - (intOf I).toNat)
    case atStart => exact ⟨0, Nat.zero_le _, rfl, Q.refl _, Lib.hid (by simp)⟩
    case round =>
      obtain ⟨i, hil, rfl, q, HT⟩ := hrel
      by_cases hlt : i < a.length
      · have hlb2 : i < b.length := by rw [← HE.out]; exact hlt
        obtain ⟨p, c1, hv1, hp1, A1, k1, hv, hat⟩ := HA.out.pick i hlt
        obtain ⟨p2, c2, hv2, hp2, A2, k2, hu, hbt⟩ := HB.out.pick i hlb2
        injection hv1 with e1 e2 e3
        injection hv2 with f1 f2 f3
        subst e1 e3 f1 f3
        have hi1 : (i : Int) < (a.length : Int) := by omega
        have hi2 : (i : Int) < (b.length : Int) := by omega
        have h1000 := (SA.out.2 _ (List.getElem_mem hlt)).2.1
        have h2000 := (SB.out.2 _ (List.getElem_mem hlb2)).2.1
        obtain ⟨S, hS⟩ := chk_ex (a[i] = b[i])
        have hT2 : S = true → a.take (i + 1) = b.take (i + 1) := fun e => by
          rcases hS with ⟨-, h⟩ | ⟨h, -⟩
          · rw [List.take_succ_eq_append_getElem hlt, List.take_succ_eq_append_getElem hlb2, HT.out, h]
          · rw [h] at e; simp at e
        have hN2 : S = false → R = false := fun e => HR.out.no (uplL_ne hlt hlb2 fun h => by
          rcases hS with ⟨h', -⟩ | ⟨-, h'⟩
          · rw [h'] at e; simp at e
          · exact h' h)
        obtain ⟨d0, d1, d2⟩ := hat _ q
        have HBT := Lib.hid hbt
        obtain ⟨x, hx⟩ : ∃ x, x = a[i] := ⟨_, rfl⟩
        obtain ⟨y, hy⟩ : ∃ y, y = b[i] := ⟨_, rfl⟩
        rw [← hx] at d0 d1 d2 hv h1000 hS
        rw [← hy] at HBT hu h2000 hS
        clear hat hbt hx hy
        have C : Hid (∀ d, Q w d → Calls Try.prog g #[upl x (.slice A1 x.L.length k1), upl y (.slice A2 y.L.length k2)] d fun e w' => e = .returned (.bool S) ∧ Q d w') := Lib.hid (fun d q => HP.out x y A1 A2 k1 k2 S hS d h1000 h2000 (hv.on q) (hu.on q))
        simp only [upl] at C
        obtain ⟨n1, hn1⟩ : ∃ n, x.L.length = n := ⟨_, rfl⟩
        obtain ⟨n2, hn2⟩ : ∃ n, y.L.length = n := ⟨_, rfl⟩
        rw [hn1] at d2
        rw [hn1, hn2] at C
        rw [hn2] at HBT
        have HQ := Lib.hid (q.alloc (.cells #[.int .u64 (x.id : Nat), .string x.key, .slice A1 n1 k1] 40))
        obtain ⟨g0, g1, g2⟩ := HBT.out _ HQ.out
        obtain ⟨g3, g4, g5⟩ := HBT.out _ q
        have HQ2 := Lib.hid (HQ.out.alloc (.cells #[.int .u64 (y.id : Nat), .string y.key, .slice A2 n2 k2] 40))
        clear hS hv hu h1000 h2000 hn1 hn2
        cases S with
        | true =>
          have HT2 := Lib.hid (hT2 rfl)
          clear hT2 hN2
          go_wp2_with (go_at_fn g; refine (C.out _ HQ2.out).mono ?_; rintro e w1 ⟨rfl, q1⟩)
          go_roundw
          case rel => exact ⟨i + 1, by omega, by go_num, HQ2.out.trans q1, HT2⟩
          case measure => simp [intOf]; omega
        | false =>
          have HV := Lib.hid (hN2 rfl)
          clear hT2 hN2
          go_wp2_with (go_at_fn g; refine (C.out _ HQ2.out).mono ?_; rintro e w1 ⟨rfl, q1⟩)
          go_ret
          exact ⟨ret_bool (by rw [HV.out]), HQ2.out.trans q1⟩
      · have HV := Lib.hid (HR.out.yes (by have := HT.out; rw [List.take_of_length_le (by omega), List.take_of_length_le (by have := HE.out; omega)] at this; exact this))
        go_wp2
        go_ret
        exact ⟨ret_bool (by rw [HV.out]), q⟩
  · have HV := Lib.hid (HR.out.no (fun e => he (congrArg List.length e)))
    have hen : ((a.length : Int) != (b.length : Int)) = true := by
      have : ¬ (a.length : Int) = (b.length : Int) := by omega
      simpa using this
    clear he
    go_enter Try.func44, Try.ntmps44
    go_wp2
    go_ret
    exact ⟨ret_bool (by rw [HV.out]), Q.refl _⟩
theorem sameU_any (a b : List Upl) (va vb : Value) (w : World) (R : Bool) (hR : Chk (a = b) R) (sa : smL a) (sb : smL b) (ha : Upls w w.heap.size va a) (hb : Upls w w.heap.size vb b) :
    Calls Try.prog 27 #[va, vb] w fun e w' => e = .returned (.bool R) ∧ Q w w' := by
  have C := Lib.hid (equalFuncU_any 45 eg_sameU a b va vb w R hR sa sb ha hb (fun x y A1 A2 k1 k2 S hS d h1 h2 t1 t2 => sameU1_any x y A1 A2 k1 k2 S hS d h1 h2 t1 t2))
  obtain ⟨A, c, rfl⟩ := ha.form
  obtain ⟨B, c', rfl⟩ := hb.form
  go_enter Try.func27, Try.ntmps27
  go_wp2_with fail
  refine (C.out).mono ?_
  rintro e w1 ⟨rfl, q1⟩
  go_wp2
  go_ret
  exact ⟨rfl, q1⟩
end Go.Proofs.Ytlahccmlnbdekaa
