/-
  Contracts of the document's Same and of the program's.
-/
import Derived.Test.YteggmlefekpkfaaEFind
namespace Go.Proofs.Yteggmlefekpkfaa
open Go.ChangeShapes Go.WideShapes Go.ChangeAt Go.RowKit
set_option linter.unusedVariables false
set_option linter.unusedSimpArgs false

theorem D.step {a b c : World} (h : D a b) (k : D b c) : D a c := by
  obtain ⟨m, rfl⟩ := h
  obtain ⟨n, rfl⟩ := k
  exact ⟨m + n, World.drewN_drewN _ _ _⟩
theorem quiet_dm {P : Program} {f : FuncId} {args : Array Value} {w : World} {m n : Nat} {v : Value}
    (h : Calls P f args (w.drewN (m + n)) fun e w' => e = .returned v ∧ D (w.drewN (m + n)) w') : Calls P f args (w.drewN (m + n)) fun e w'' => e = .returned v ∧ ∃ k, w'' = w.drewN (m + k) :=
  h.mono fun _ _ ⟨he, k, hk⟩ => ⟨he, n + k, by rw [hk, World.drewN_drewN, Nat.add_assoc]⟩
theorem ent_ext {x y : Ent} (h : x.key = y.key) (k : x.L = y.L) : x = y := by
  cases x; cases y; simp only at h k; rw [h, k]
theorem entL_ne {a b : List Ent} {i : Nat} (h : i < a.length) (k : i < b.length) (n : a[i] ≠ b[i]) : a ≠ b := by
  rintro rfl; exact n rfl
/-- Same's answer. -/
def sameEP (a b : List Ent) (R : Bool) : Prop := (R = true ∧ a = b) ∨ (R = false ∧ a ≠ b)
theorem sameEP_ex (a b : List Ent) : ∃ R, sameEP a b R := by
  by_cases h : a = b
  · exact ⟨true, .inl ⟨rfl, h⟩⟩
  · exact ⟨false, .inr ⟨rfl, h⟩⟩
theorem sameEP_yes {a b : List Ent} {A : Bool} (h : sameEP a b A) (e : a = b) : A = true := by
  rcases h with ⟨h, -⟩ | ⟨-, h⟩
  · exact h
  · exact absurd e h
theorem sameEP_no {a b : List Ent} {A : Bool} (h : sameEP a b A) (e : a ≠ b) : A = false := by
  rcases h with ⟨-, h⟩ | ⟨h, -⟩
  · exact absurd h e
  · exact h
theorem sameP_ex (a b : List Ver) : ∃ R, sameP a b R := by
  by_cases h : a = b
  · exact ⟨true, .inl ⟨rfl, h⟩⟩
  · exact ⟨false, .inr ⟨rfl, h⟩⟩
set_option maxHeartbeats 4000000 in
theorem rsameE_any (a b : List Ent) (va vb : Value) (w : World) (R : Bool) (hR : sameEP a b R) (sa : Small a) (sb : Small b) (ha : Ents w w.heap.size va a) (hb : Ents w w.heap.size vb b) :
    Calls Try.prog 14 #[va, vb] w fun e w' => e = .returned (.bool R) ∧ D w w' := by
  have HA := Lib.hid ha
  have HB := Lib.hid hb
  have HR := Lib.hid hR
  have SA := Lib.hid sa
  have SB := Lib.hid sb
  have hl := sa.1
  have hlb := sb.1
  obtain ⟨A, c, rfl⟩ := ha.form
  obtain ⟨B, c', rfl⟩ := hb.form
  clear ha hb hR sa sb
  by_cases he : a.length = b.length
  · have hen : ((a.length : Int) != (b.length : Int)) = false := by simp [he]
    have HE := Lib.hid he
    clear he
    go_enter Try.func14, Try.ntmps14
    go_wp2_with fail
    go_loopw [5] (fun I wr => ∃ i : Nat, i ≤ a.length ∧ I = .int .i64 i ∧ D w wr ∧ Hid (a.take i = b.take i)) (fun I _ => a.length - (intOf I).toNat)
    case atStart => exact ⟨0, Nat.zero_le _, rfl, D.refl _, Lib.hid (by simp)⟩
    case round =>
      obtain ⟨i, hil, rfl, d, HT⟩ := hrel
      by_cases hlt : i < a.length
      · have hlb2 : i < b.length := by rw [← HE.out]; exact hlt
        obtain ⟨p, c1, hv1, hp, A1, k1, hv, hat⟩ := HA.out.pick i hlt
        obtain ⟨q, c2, hv2, hq, A2, k2, hu, hbt⟩ := HB.out.pick i hlb2
        injection hv1 with e1 e2 e3
        injection hv2 with f1 f2 f3
        subst e1 e3 f1 f3
        obtain ⟨m, rfl⟩ := d
        obtain ⟨d0, d1⟩ := hat w (Q.refl w)
        obtain ⟨d2, d3⟩ := hbt w (Q.refl w)
        have hi1 : (i : Int) < (a.length : Int) := by omega
        have hi2 : (i : Int) < (b.length : Int) := by omega
        by_cases hk : a[i].key = b[i].key
        · obtain ⟨S, hS⟩ := sameP_ex a[i].L b[i].L
          have SM : Hid (∀ n, Calls Try.prog 21 #[.slice A1 a[i].L.length k1, .slice A2 b[i].L.length k2] (w.drewN (m + n)) fun e w'' => e = .returned (.bool S) ∧ ∃ k, w'' = w.drewN (m + k)) := Lib.hid (fun n =>
            quiet_dm (rsame_any _ _ _ _ _ S hS (SA.out.2 _ (List.getElem_mem hlt)).2.1 (SB.out.2 _ (List.getElem_mem hlb2)).2.1 (hv.on ((Q.refl w).drewN (m + n))) (hu.on ((Q.refl w).drewN (m + n)))))
          have hT2 : S = true → a.take (i + 1) = b.take (i + 1) := fun e => by
            have k := sameP_yes (A := S) hS
            rcases hS with ⟨-, h⟩ | ⟨h, -⟩
            · rw [List.take_succ_eq_append_getElem hlt, List.take_succ_eq_append_getElem hlb2, HT.out, ent_ext hk h]
            · rw [h] at e; simp at e
          have hN2 : S = false → R = false := fun e => sameEP_no HR.out (entL_ne hlt hlb2 fun h => by
            rcases hS with ⟨h', -⟩ | ⟨-, h'⟩
            · rw [h'] at e; simp at e
            · exact h' (by rw [h]))
          have h1 := key_eq b[i].key
          rw [hk] at d0
          obtain ⟨x, hx⟩ : ∃ x, x = b[i].key := ⟨_, rfl⟩
          obtain ⟨L1, hL1⟩ : ∃ L, L = a[i].L.length := ⟨_, rfl⟩
          obtain ⟨L2, hL2⟩ : ∃ L, L = b[i].L.length := ⟨_, rfl⟩
          rw [← hx] at d0 d2 h1
          rw [← hL1] at d1 SM
          rw [← hL2] at d3 SM
          clear hat hbt hv hu hk hx hL1 hL2 hS
          cases S with
          | true =>
            have HT2 := Lib.hid (hT2 rfl)
            clear hT2 hN2
            go_wp2_with fail
            go_quiet ((go_at_call 21; exact SM.out _))
            go_wp2
            go_roundw
            case rel => exact ⟨i + 1, by omega, by go_num, ⟨m + nq, by first | rfl | rw [World.drewN_drewN]⟩, HT2⟩
            case measure => simp [intOf]; omega
          | false =>
            have HV := Lib.hid (hN2 rfl)
            clear hT2 hN2
            go_wp2_with fail
            go_quiet ((go_at_call 21; exact SM.out _))
            go_wp2
            go_ret
            exact ⟨ret_bool (by rw [HV.out]), ⟨m + nq, by first | rfl | rw [World.drewN_drewN]⟩⟩
        · have HV := Lib.hid (sameEP_no HR.out (entL_ne hlt hlb2 fun h => hk (by rw [h])))
          have h1 := key_ne hk
          have h2 : ¬ a[i].key.toList = b[i].key.toList := by simpa using h1
          obtain ⟨x, hx⟩ : ∃ x, x = a[i].key := ⟨_, rfl⟩
          obtain ⟨y, hy⟩ : ∃ x, x = b[i].key := ⟨_, rfl⟩
          rw [← hx] at d0 h1 h2
          rw [← hy] at d2 h1 h2
          clear hat hbt hv hu hk hx hy d1 d3
          go_wp2_with fail
          go_quiet (fail)
          go_wp2
          go_ret
          exact ⟨ret_bool (by rw [HV.out]), ⟨m + nq, by first | rfl | rw [World.drewN_drewN]⟩⟩
      · have HV := Lib.hid (sameEP_yes HR.out (by have := HT.out; rw [List.take_of_length_le (by omega), List.take_of_length_le (by have := HE.out; omega)] at this; exact this))
        go_wp2
        go_ret
        exact ⟨ret_bool (by rw [HV.out]), d⟩
  · have HV := Lib.hid (sameEP_no HR.out (fun e => he (congrArg List.length e)))
    have hen : ((a.length : Int) != (b.length : Int)) = true := by
      have : ¬ (a.length : Int) = (b.length : Int) := by omega
      simpa using this
    clear he
    go_enter Try.func14, Try.ntmps14
    go_wp2
    go_ret
    exact ⟨ret_bool (by rw [HV.out]), D.refl _⟩
set_option maxHeartbeats 2000000 in
theorem equalV_any (a b : List Ver) (va vb : Value) (w : World) (R : Bool) (hR : sameP a b R) (hl : a.length ≤ 1000) (hlb : b.length ≤ 1000) (ha : Vers w w.heap.size va a) (hb : Vers w w.heap.size vb b) :
    Calls Try.prog 39 #[va, vb] w fun e w' => e = .returned (.bool R) ∧ D w w' := by
  obtain ⟨A, c, rfl, -, -, -, hca⟩ := ha
  obtain ⟨B, c', rfl, -, -, -, hcb⟩ := hb
  have HA := Lib.hid hca
  have HB := Lib.hid hcb
  have HR := Lib.hid hR
  clear hca hcb hR
  by_cases he : a.length = b.length
  · have hen : ((a.length : Int) != (b.length : Int)) = false := by simp [he]
    have HE := Lib.hid he
    clear he
    go_enter Try.func39, Try.ntmps39
    go_wp2_with fail
    go_loopw [5, 13] (fun _ I wr => ∃ i : Nat, i ≤ a.length ∧ I = .int .i64 i ∧ D w wr ∧ Hid (a.take i = b.take i)) (fun _ I _ => a.length - (intOf I).toNat)
    case atStart => exact ⟨0, Nat.zero_le _, rfl, D.refl _, Lib.hid (by simp)⟩
    case round =>
      obtain ⟨i, hil, rfl, d, HT⟩ := hrel
      by_cases hlt : i < a.length
      · have hlb2 : i < b.length := by rw [← HE.out]; exact hlt
        obtain ⟨p, rfl, hp, hat⟩ := HA.out i hlt
        obtain ⟨q, rfl, hq, hbt⟩ := HB.out i hlb2
        obtain ⟨m, rfl⟩ := d
        obtain ⟨c0, c1, c2, c3⟩ := hat
        obtain ⟨d0, d1, d2, d3⟩ := hbt
        have h2 : (i : Int) < (b.length : Int) := by omega
        by_cases hxy : a[i] = b[i]
        · have HT2 : Hid (a.take (i + 1) = b.take (i + 1)) := Lib.hid (by rw [List.take_succ_eq_append_getElem hlt, List.take_succ_eq_append_getElem hlb2, HT.out, hxy])
          rw [← hxy] at d0 d1 d2 d3
          obtain ⟨x, hx⟩ : ∃ x, x = a[i] := ⟨_, rfl⟩
          rw [← hx] at c0 c1 c2 c3 d0 d1 d2 d3
          clear hx hxy
          go_wp2_with fail
          go_region
          go_wp2
          go_roundw
          case rel => exact ⟨i + 1, by omega, by go_num, ⟨m + 1, by simp [Nat.add_comm]⟩, HT2⟩
          case measure => simp [intOf]; omega
        · have HV := Lib.hid (sameP_no HR.out (list_ne hlt hlb2 hxy))
          have hne := ver_ne hxy
          obtain ⟨x, hx⟩ : ∃ x, x = a[i] := ⟨_, rfl⟩
          obtain ⟨y, hy⟩ : ∃ y, y = b[i] := ⟨_, rfl⟩
          rw [← hx] at c0 c1 c2 c3 hne
          rw [← hy] at d0 d1 d2 d3 hne
          clear hx hy hxy
          obtain ⟨xi, xd, xm, xt⟩ := x
          obtain ⟨yi, yd, ym, yt⟩ := y
          simp only at c0 c1 c2 c3 d0 d1 d2 d3 hne
          rcases hne with h | ⟨rfl, h⟩ | ⟨rfl, rfl, h⟩ | ⟨rfl, rfl, rfl, h⟩
          · have h' : ¬ ((xi : Int) = (yi : Int)) := by omega
            clear h
            go_wp2_with fail
            go_region
            go_wp2
            go_ret
            exact ⟨ret_bool (by rw [HV.out]), (D.drewN ⟨m, rfl⟩ 1)⟩
          · have h' : ¬ (xd.toList = yd.toList) := fun e => h (bl_inj (by rw [← toList_bl, ← toList_bl, e]))
            clear h
            go_wp2_with fail
            go_region
            go_wp2
            go_ret
            exact ⟨ret_bool (by rw [HV.out]), (D.drewN ⟨m, rfl⟩ 1)⟩
          · skip
            go_wp2_with fail
            go_region
            go_wp2
            go_ret
            exact ⟨ret_bool (by rw [HV.out]), (D.drewN ⟨m, rfl⟩ 1)⟩
          · skip
            go_wp2_with fail
            go_region
            go_wp2
            go_ret
            exact ⟨ret_bool (by rw [HV.out]), (D.drewN ⟨m, rfl⟩ 1)⟩
      · have HV := Lib.hid (sameP_yes HR.out (by have := HT.out; rw [List.take_of_length_le (by omega), List.take_of_length_le (by have := HE.out; omega)] at this; exact this))
        go_wp2
        go_ret
        exact ⟨ret_bool (by rw [HV.out]), d⟩
  · have HV := Lib.hid (sameP_no HR.out (fun e => he (congrArg List.length e)))
    have hen : ((a.length : Int) != (b.length : Int)) = true := by
      have : ¬ (a.length : Int) = (b.length : Int) := by omega
      simpa using this
    clear he
    go_enter Try.func39, Try.ntmps39
    go_wp2
    go_ret
    exact ⟨ret_bool (by rw [HV.out]), D.refl _⟩

/-- The closure of the program's Same. -/
theorem sameE1_any (x y : Ent) (A1 A2 : Option Addr) (k1 k2 : Nat) (R : Bool) (hR : (R = true ∧ x = y) ∨ (R = false ∧ x ≠ y)) (w : World) (h1 : x.L.length ≤ 1000) (h2 : y.L.length ≤ 1000) (t1 : Vers w w.heap.size (.slice A1 x.L.length k1) x.L) (t2 : Vers w w.heap.size (.slice A2 y.L.length k2) y.L) :
    Calls Try.prog 38 #[.agg #[.string x.key, .slice A1 x.L.length k1], .agg #[.string y.key, .slice A2 y.L.length k2]] w fun e w' => e = .returned (.bool R) ∧ Q w w' := by
  have q2 := ((Q.refl w).alloc (.cells #[.string x.key, .slice A1 x.L.length k1] 48)).alloc (.cells #[.string y.key, .slice A2 y.L.length k2] 48)
  by_cases hk : x.key = y.key
  · obtain ⟨S, hS⟩ := sameP_ex x.L y.L
    have hSR : S = R := by
      rcases hS with ⟨rfl, h⟩ | ⟨rfl, h⟩
      · rcases hR with ⟨rfl, -⟩ | ⟨-, h'⟩
        · rfl
        · exact absurd (ent_ext hk h) h'
      · rcases hR with ⟨-, h'⟩ | ⟨rfl, -⟩
        · exact absurd (by rw [h']) h
        · rfl
    subst hSR
    have C := Lib.hid (equalV_any x.L y.L _ _ _ S hS h1 h2 (t1.on q2) (t2.on q2))
    have hb := key_eq y.key
    rw [hk] at q2 C ⊢
    obtain ⟨L1, hL1⟩ : ∃ L, L = x.L.length := ⟨_, rfl⟩
    obtain ⟨L2, hL2⟩ : ∃ L, L = y.L.length := ⟨_, rfl⟩
    rw [← hL1, ← hL2] at q2 C ⊢
    clear hL1 hL2 hk hR hS t1 t2 h1 h2
    cases S with
    | true =>
      go_enter Try.func38, Try.ntmps38
      go_wp2_with fail
      refine (C.out).mono ?_
      rintro e w1 ⟨rfl, d1⟩
      go_wp2
      go_ret
      exact ⟨rfl, q2.trans d1.q⟩
    | false =>
      go_enter Try.func38, Try.ntmps38
      go_wp2_with fail
      refine (C.out).mono ?_
      rintro e w1 ⟨rfl, d1⟩
      go_wp2
      go_ret
      exact ⟨rfl, q2.trans d1.q⟩
  · have hf : R = false := by
      rcases hR with ⟨-, h'⟩ | ⟨h, -⟩
      · exact absurd (by rw [h']) hk
      · exact h
    subst hf
    have hb := key_ne hk
    have hb2 : ¬ x.key.toList = y.key.toList := by simpa using hb
    have HQ := Lib.hid q2
    clear hk hR t1 t2 q2
    go_enter Try.func38, Try.ntmps38
    go_wp2
    go_ret
    exact ⟨rfl, HQ.out⟩
theorem eg_same : ∀ args w, (callFunc 38 args).run Try.prog w = .ok (.enter 38 args) w := enters_of Try.func38 (by kernel_rfl) rfl
set_option maxHeartbeats 4000000 in
theorem equalFuncE_any (g : Nat) (eg : ∀ args w, (callFunc g args).run Try.prog w = .ok (.enter g args) w) (a b : List Ent) (va vb : Value) (w : World) (R : Bool) (hR : sameEP a b R) (sa : Small a) (sb : Small b) (ha : Ents w w.heap.size va a) (hb : Ents w w.heap.size vb b)
    (hp : ∀ (x y : Ent) (A1 A2 : Option Addr) (k1 k2 : Nat) (S : Bool) (hS : (S = true ∧ x = y) ∨ (S = false ∧ x ≠ y)) (d : World) (h1 : x.L.length ≤ 1000) (h2 : y.L.length ≤ 1000) (t1 : Vers d d.heap.size (.slice A1 x.L.length k1) x.L) (t2 : Vers d d.heap.size (.slice A2 y.L.length k2) y.L),
      Calls Try.prog g #[.agg #[.string x.key, .slice A1 x.L.length k1], .agg #[.string y.key, .slice A2 y.L.length k2]] d fun e w' => e = .returned (.bool S) ∧ Q d w') :
    Calls Try.prog 37 #[va, vb, .func (.func g) #[] #[]] w fun e w' => e = .returned (.bool R) ∧ Q w w' := by
  have HA := Lib.hid ha
  have HB := Lib.hid hb
  have HR := Lib.hid hR
  have SA := Lib.hid sa
  have SB := Lib.hid sb
  have HP := Lib.hid hp
  have hl := sa.1
  have hlb := sb.1
  obtain ⟨A, c, rfl⟩ := ha.form
  obtain ⟨B, c', rfl⟩ := hb.form
  clear ha hb hR sa sb hp
  by_cases he : a.length = b.length
  · have hen : ((a.length : Int) != (b.length : Int)) = false := by simp [he]
    have HE := Lib.hid he
    clear he
    go_enter Try.func37, Try.ntmps37
    go_wp2_with fail
    go_loopw [7, 17] (fun _ I wr => ∃ i : Nat, i ≤ a.length ∧ I = .int .i64 i ∧ Q w wr ∧ Hid (a.take i = b.take i)) (fun _ I _ => a.length - (intOf I).toNat)
    case atStart => exact ⟨0, Nat.zero_le _, rfl, Q.refl _, Lib.hid (by simp)⟩
    case round =>
      obtain ⟨i, hil, rfl, q, HT⟩ := hrel
      by_cases hlt : i < a.length
      · have hlb2 : i < b.length := by rw [← HE.out]; exact hlt
        obtain ⟨p, c1, hv1, hp1, A1, k1, hv, hat⟩ := HA.out.pick i hlt
        obtain ⟨p2, c2, hv2, hp2, A2, k2, hu, hbt⟩ := HB.out.pick i hlb2
        injection hv1 with e1 e2 e3
        injection hv2 with f1 f2 f3
        subst e1 e3 f1 f3
        have hi1 : (i : Int) < (a.length : Int) := by omega
        have hi2 : (i : Int) < (b.length : Int) := by omega
        have h1000 := (SA.out.2 _ (List.getElem_mem hlt)).2.1
        have h2000 := (SB.out.2 _ (List.getElem_mem hlb2)).2.1
        obtain ⟨S, hS⟩ : ∃ S : Bool, (S = true ∧ a[i] = b[i]) ∨ (S = false ∧ a[i] ≠ b[i]) := by
          by_cases h : a[i] = b[i]
          · exact ⟨true, .inl ⟨rfl, h⟩⟩
          · exact ⟨false, .inr ⟨rfl, h⟩⟩
        have hT2 : S = true → a.take (i + 1) = b.take (i + 1) := fun e => by
          rcases hS with ⟨-, h⟩ | ⟨h, -⟩
          · rw [List.take_succ_eq_append_getElem hlt, List.take_succ_eq_append_getElem hlb2, HT.out, h]
          · rw [h] at e; simp at e
        have hN2 : S = false → R = false := fun e => sameEP_no HR.out (entL_ne hlt hlb2 fun h => by
          rcases hS with ⟨h', -⟩ | ⟨-, h'⟩
          · rw [h'] at e; simp at e
          · exact h' h)
        obtain ⟨d0, d1⟩ := hat _ q
        have HBT := Lib.hid hbt
        obtain ⟨x, hx⟩ : ∃ x, x = a[i] := ⟨_, rfl⟩
        obtain ⟨y, hy⟩ : ∃ y, y = b[i] := ⟨_, rfl⟩
        rw [← hx] at d0 d1 hv h1000 hS
        rw [← hy] at HBT hu h2000 hS
        clear hat hbt hx hy
        have C : Hid (∀ d, Q w d → Calls Try.prog g #[.agg #[.string x.key, .slice A1 x.L.length k1], .agg #[.string y.key, .slice A2 y.L.length k2]] d fun e w' => e = .returned (.bool S) ∧ Q d w') := Lib.hid (fun d q => HP.out x y A1 A2 k1 k2 S hS d h1000 h2000 (hv.on q) (hu.on q))
        have HQ := Lib.hid (q.alloc (.cells #[.string x.key, .slice A1 x.L.length k1] 48))
        obtain ⟨d2, d3⟩ := HBT.out _ HQ.out
        obtain ⟨d4, d5⟩ := HBT.out _ q
        have HQ2 := Lib.hid (HQ.out.alloc (.cells #[.string y.key, .slice A2 y.L.length k2] 48))
        clear hS hv hu h1000 h2000
        cases S with
        | true =>
          have HT2 := Lib.hid (hT2 rfl)
          clear hT2 hN2
          go_wp2_with (go_at_fn g; refine (C.out _ HQ2.out).mono ?_; rintro e w1 ⟨rfl, q1⟩)
          go_roundw
          case rel => exact ⟨i + 1, by omega, by go_num, HQ2.out.trans q1, HT2⟩
          case measure => simp [intOf]; omega
        | false =>
          have HV := Lib.hid (hN2 rfl)
          clear hT2 hN2
          go_wp2_with (go_at_fn g; refine (C.out _ HQ2.out).mono ?_; rintro e w1 ⟨rfl, q1⟩)
          go_ret
          exact ⟨ret_bool (by rw [HV.out]), HQ2.out.trans q1⟩
      · have HV := Lib.hid (sameEP_yes HR.out (by have := HT.out; rw [List.take_of_length_le (by omega), List.take_of_length_le (by have := HE.out; omega)] at this; exact this))
        go_wp2
        go_ret
        exact ⟨ret_bool (by rw [HV.out]), q⟩
  · have HV := Lib.hid (sameEP_no HR.out (fun e => he (congrArg List.length e)))
    have hen : ((a.length : Int) != (b.length : Int)) = true := by
      have : ¬ (a.length : Int) = (b.length : Int) := by omega
      simpa using this
    clear he
    go_enter Try.func37, Try.ntmps37
    go_wp2
    go_ret
    exact ⟨ret_bool (by rw [HV.out]), Q.refl _⟩
theorem sameE_any (a b : List Ent) (va vb : Value) (w : World) (R : Bool) (hR : sameEP a b R) (sa : Small a) (sb : Small b) (ha : Ents w w.heap.size va a) (hb : Ents w w.heap.size vb b) :
    Calls Try.prog 26 #[va, vb] w fun e w' => e = .returned (.bool R) ∧ Q w w' := by
  have C := Lib.hid (equalFuncE_any 38 eg_same a b va vb w R hR sa sb ha hb (fun x y A1 A2 k1 k2 S hS d h1 h2 t1 t2 => sameE1_any x y A1 A2 k1 k2 S hS d h1 h2 t1 t2))
  obtain ⟨A, c, rfl⟩ := ha.form
  obtain ⟨B, c', rfl⟩ := hb.form
  go_enter Try.func26, Try.ntmps26
  go_wp2_with fail
  refine (C.out).mono ?_
  rintro e w1 ⟨rfl, q1⟩
  go_wp2
  go_ret
  exact ⟨rfl, q1⟩
end Go.Proofs.Yteggmlefekpkfaa
