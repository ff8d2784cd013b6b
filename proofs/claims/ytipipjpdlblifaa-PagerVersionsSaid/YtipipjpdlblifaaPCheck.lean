/-
  Contract of the program's Check.
-/
import Derived.Test.YtipipjpdlblifaaPPlace
namespace Go.Proofs.Ytipipjpdlblifaa
open Go.ChangeShapes Go.WideShapes Go.ChangeAt Go.RowKit
set_option linter.unusedVariables false

/-- What stands ahead of round i: the last ID that is not 0, whether there was a 0, and the last time. -/
def ChkI (l : List Ver) (i A : Nat) (Z : Bool) (T : Int) : Prop :=
  (∀ j, j < i → stepOk l j) ∧ (∀ k (hk : k < i) (h : k < l.length), l[k].id ≠ 0 → A ≤ l[k].id) ∧ (A = 281474976710656 ∨ ∃ k, k < i ∧ ∃ h : k < l.length, A = l[k].id ∧ l[k].id ≠ 0) ∧
  (Z = true ↔ ∃ k, k < i ∧ ∃ h : k < l.length, l[k].id = 0) ∧ (i = 0 → T = 1099511627775) ∧ (∀ j (hj : j + 1 = i) (h : j < l.length), T = l[j].tm)
theorem chkI_zero (l : List Ver) : ChkI l 0 281474976710656 false 1099511627775 :=
  ⟨fun j h => by omega, fun k h => by omega, .inl rfl, by simp, fun _ => rfl, fun j h => by omega⟩
theorem chkI_late {l : List Ver} {i A : Nat} {Z : Bool} {T : Int} (h : ChkI l i A Z T) (hi : i < l.length) (hm : mayV l[i] = true) (ht : T < l[i].tm) : ¬ okP l := by
  intro o
  obtain ⟨-, -, -, -, h0, hT⟩ := h
  obtain ⟨-, -, -, -, m5⟩ := mayV_iff.1 hm
  cases i with
  | zero => rw [h0 rfl] at ht; omega
  | succ j =>
    rw [hT j rfl (by omega)] at ht
    exact (o.2 (j + 1)).2.1 j rfl hi ht
theorem chkI_above {l : List Ver} {i A : Nat} {Z : Bool} {T : Int} (h : ChkI l i A Z T) (hi : i < l.length) (hm : mayV l[i] = true) (ha : A ≤ l[i].id) : ¬ okP l := by
  intro o
  obtain ⟨m1, -⟩ := mayV_iff.1 hm
  obtain ⟨-, -, hA, -⟩ := h
  rcases hA with hA | ⟨k, hk, hkl, hA, hz⟩
  · omega
  · have := (o.2 i).2.2 k hi hk hkl
    rw [pairBad, if_neg (by omega), if_neg hz] at this
    have h2 : l[k].id ≤ l[i].id := by omega
    simp [h2] at this
theorem chkI_zeros {l : List Ver} {i A : Nat} {Z : Bool} {T : Int} (h : ChkI l i A Z T) (hi : i < l.length) (h0 : l[i].id = 0) (hZ : Z = true) : ¬ okP l := by
  intro o
  obtain ⟨-, -, -, hz, -⟩ := h
  obtain ⟨k, hk, hkl, e⟩ := hz.1 hZ
  have := (o.2 i).2.2 k hi hk hkl
  rw [pairBad, if_pos h0] at this
  simp [e] at this
theorem chkI_step {l : List Ver} {i A : Nat} {Z : Bool} {T : Int} (h : ChkI l i A Z T) (hi : i < l.length) (hm : mayV l[i] = true) (ht : ¬ T < l[i].tm) (ha : ¬ A ≤ l[i].id) (hz : ¬ (l[i].id = 0 ∧ Z = true)) : stepOk l i := by
  obtain ⟨h1, h2, h3, h4, h5, h6⟩ := h
  refine ⟨fun _ => hm, fun j hj _ => ?_, fun k _ hk hkl => ?_⟩
  · rw [h6 j hj (by omega)] at ht; exact ht
  · unfold pairBad
    by_cases h0 : l[i].id = 0
    · rw [if_pos h0, decide_eq_false_iff_not]
      exact fun e => hz ⟨h0, h4.2 ⟨k, hk, hkl, e⟩⟩
    · rw [if_neg h0]
      by_cases hk0 : l[k].id = 0
      · rw [if_pos hk0]
      · rw [if_neg hk0, decide_eq_false_iff_not]
        have := h2 k hk hkl hk0
        omega
theorem chkI_more0 {l : List Ver} {i A : Nat} {T : Int} (h : ChkI l i A false T) (hi : i < l.length) (hs : stepOk l i) (h0 : l[i].id = 0) : ChkI l (i + 1) A true l[i].tm := by
  obtain ⟨h1, h2, h3, h4, h5, h6⟩ := h
  refine ⟨fun j hj => ?_, fun k hk hkl hk0 => ?_, ?_, ⟨fun _ => ⟨i, by omega, hi, h0⟩, fun _ => rfl⟩, fun e => by omega, fun j hj hjl => ?_⟩
  · by_cases e : j = i
    · subst e; exact hs
    · exact h1 j (by omega)
  · by_cases e : k = i
    · subst e; exact absurd h0 hk0
    · exact h2 k (by omega) hkl hk0
  · rcases h3 with h3 | ⟨k, hk, r⟩
    · exact .inl h3
    · exact .inr ⟨k, by omega, r⟩
  · have e : j = i := by omega
    subst e; rfl
theorem chkI_more {l : List Ver} {i A : Nat} {Z : Bool} {T : Int} (h : ChkI l i A Z T) (hi : i < l.length) (hs : stepOk l i) (h0 : l[i].id ≠ 0) (ha : ¬ A ≤ l[i].id) : ChkI l (i + 1) l[i].id Z l[i].tm := by
  obtain ⟨h1, h2, h3, h4, h5, h6⟩ := h
  refine ⟨fun j hj => ?_, fun k hk hkl hk0 => ?_, .inr ⟨i, by omega, hi, rfl, h0⟩, ⟨fun hZ => ?_, fun ⟨k, hk, hkl, e⟩ => ?_⟩, fun e => by omega, fun j hj hjl => ?_⟩
  · by_cases e : j = i
    · subst e; exact hs
    · exact h1 j (by omega)
  · by_cases e : k = i
    · subst e; omega
    · have := h2 k (by omega) hkl hk0
      omega
  · obtain ⟨k, hk, r⟩ := h4.1 hZ
    exact ⟨k, by omega, r⟩
  · by_cases e2 : k = i
    · subst e2; exact absurd e h0
    · exact h4.2 ⟨k, by omega, hkl, e⟩
  · have e : j = i := by omega
    subst e; rfl
theorem chkI_lt {l : List Ver} {i A : Nat} {Z : Bool} {T : Int} (h : ChkI l i A Z T) : A ≤ 281474976710656 := by
  obtain ⟨h1, h2, h3, h4, h5, h6⟩ := h
  rcases h3 with h3 | ⟨k, hk, hkl, e, -⟩
  · omega
  · obtain ⟨m1, -⟩ := mayV_iff.1 ((h1 k hk).1 hkl)
    omega
theorem chkI_pos {l : List Ver} {i A : Nat} {Z : Bool} {T : Int} (h : ChkI l i A Z T) : 0 < A := by
  obtain ⟨h1, h2, h3, h4, h5, h6⟩ := h
  rcases h3 with h3 | ⟨k, hk, hkl, e, e0⟩ <;> omega

/-- A version's box, behind calls. -/
theorem box_of {w w1 : World} {i : Int} {d : ByteArray} {m : Bool} {t : Int} (q : Q (w.alloc (.cells #[.int .u64 i, .string d, .bool m, .int .i64 t] 63)) w1) :
    w1.cell? ⟨w.heap.size, 0, none⟩ = some (.int .u64 i) ∧ w1.cell? ⟨w.heap.size, 1, none⟩ = some (.string d) ∧ w1.cell? ⟨w.heap.size, 2, none⟩ = some (.bool m) ∧ w1.cell? ⟨w.heap.size, 3, none⟩ = some (.int .i64 t) := by
  have c : ∀ k, w1.cell? ⟨w.heap.size, k, none⟩ = (w.alloc (.cells #[.int .u64 i, .string d, .bool m, .int .i64 t] 63)).cell? ⟨w.heap.size, k, none⟩ := fun k => Below.cell q (p := ⟨w.heap.size, k, none⟩) (by simp)
  refine ⟨(c 0).trans ?_, (c 1).trans ?_, (c 2).trans ?_, (c 3).trans ?_⟩ <;> simp [go_sem]

def chkE (R : Bool) : Int := if R then 0 else 1
set_option maxHeartbeats 4000000 in
theorem check_any (l : List Ver) (v : Value) (w : World) (R : Bool) (hR : chkP l R) (hl : l.length ≤ 1000) (ht : Vers w w.heap.size v l) :
    Calls Try.prog 51 #[v] w fun e w' => e = .returned (.int .i64 (chkE R)) ∧ Q w w' := by
  obtain ⟨A, c, rfl, -, -, -, hcells⟩ := ht
  have HC := Lib.hid hcells
  have HR := Lib.hid hR
  clear hcells hR
  by_cases h20 : l.length ≤ 20
  · have h20' : ¬ (20 : Int) < (l.length : Int) := by omega
    have NO : Hid (¬ okP l → chkE R = 1) := Lib.hid (fun k => by rw [chkP_no HR.out k]; rfl)
    go_enter Try.func51, Try.ntmps51
    go_wp2_with fail
    go_loopw [3, 4, 5, 7, 13] (fun AB LA ZE _ I wr => ∃ (i ab : Nat) (ze : Bool) (la : Int), i ≤ l.length ∧ ab ≤ 281474976710656 ∧ I = .int .i64 i ∧ AB = .int .u64 ab ∧ LA = .int .i64 la ∧ ZE = .bool ze ∧ Q w wr ∧ Hid (ChkI l i ab ze la)) (fun _ _ _ _ I _ => l.length - (intOf I).toNat)
    case atStart => exact ⟨0, 281474976710656, false, 1099511627775, Nat.zero_le _, Nat.le_refl _, rfl, rfl, rfl, rfl, Q.refl _, Lib.hid (chkI_zero l)⟩
    case round =>
      obtain ⟨i, ab, ze, la, hil, hab, rfl, rfl, rfl, rfl, q, HI⟩ := hrel
      by_cases hlt : i < l.length
      · obtain ⟨a, rfl, ha, hat⟩ := HC.out i hlt
        obtain ⟨c0, c1, c2, c3⟩ := hat.keep (by rw [add_block]; exact ha) fun _ hp => q.cell hp
        clear hat
        have HP := chkI_pos HI.out
        cases hm : mayV l[i] with
        | false =>
          have HV := Lib.hid (NO.out (fun o => by have := (o.2 i).1 hlt; rw [hm] at this; simp at this))
          obtain ⟨x, hx⟩ : ∃ x, x = l[i] := ⟨_, rfl⟩
          rw [← hx] at c0 c1 c2 c3 hm
          clear hx
          have C := Lib.hid (fun b => may_any x b)
          rw [hm, ver] at C
          clear hm
          go_wp2_with fail
          refine (C.out _).mono ?_
          rintro e w1 ⟨rfl, q1⟩
          go_wp2
          go_ret
          exact ⟨by rw [HV.out]; rfl, (q.alloc _).trans q1⟩
        | true =>
          by_cases htm : la < l[i].tm
          · have HV := Lib.hid (NO.out (chkI_late HI.out hlt hm htm))
            obtain ⟨x, hx⟩ : ∃ x, x = l[i] := ⟨_, rfl⟩
            rw [← hx] at c0 c1 c2 c3 hm htm
            clear hx
            have C := Lib.hid (fun b => may_any x b)
            rw [hm, ver] at C
            clear hm
            go_wp2_with fail
            refine (C.out _).mono ?_
            rintro e w1 ⟨rfl, q1⟩
            obtain ⟨b0, b1, b2, b3⟩ := box_of q1
            have q2 := (q.alloc _).trans q1
            go_wp2
            go_ret
            exact ⟨by rw [HV.out]; rfl, q2⟩
          · by_cases hA : ab ≤ l[i].id
            · have HV := Lib.hid (NO.out (chkI_above HI.out hlt hm hA))
              obtain ⟨x, hx⟩ : ∃ x, x = l[i] := ⟨_, rfl⟩
              rw [← hx] at c0 c1 c2 c3 hm htm hA
              clear hx
              have hA' : (ab : Int) ≤ (x.id : Int) := by omega
              have C := Lib.hid (fun b => may_any x b)
              rw [hm, ver] at C
              clear hm
              go_wp2_with fail
              refine (C.out _).mono ?_
              rintro e w1 ⟨rfl, q1⟩
              obtain ⟨b0, b1, b2, b3⟩ := box_of q1
              have q2 := (q.alloc _).trans q1
              go_wp2
              go_ret
              exact ⟨by rw [HV.out]; rfl, q2⟩
            · by_cases h0 : l[i].id = 0
              · cases ze with
                | true =>
                  have HV := Lib.hid (NO.out (chkI_zeros HI.out hlt h0 rfl))
                  obtain ⟨x, hx⟩ : ∃ x, x = l[i] := ⟨_, rfl⟩
                  rw [← hx] at c0 c1 c2 c3 hm htm hA h0
                  clear hx
                  have hA' : ¬ (ab : Int) ≤ (x.id : Int) := by omega
                  have C := Lib.hid (fun b => may_any x b)
                  rw [hm, ver] at C
                  have h0' : ((x.id : Int) == 0) = true := by simp [h0]
                  clear hm h0
                  go_wp2_with fail
                  refine (C.out _).mono ?_
                  rintro e w1 ⟨rfl, q1⟩
                  obtain ⟨b0, b1, b2, b3⟩ := box_of q1
                  have q2 := (q.alloc _).trans q1
                  go_wp2
                  go_ret
                  exact ⟨by rw [HV.out]; rfl, q2⟩
                | false =>
                  have HN := Lib.hid (chkI_more0 HI.out hlt (chkI_step HI.out hlt hm htm hA (by simp)) h0)
                  obtain ⟨x, hx⟩ : ∃ x, x = l[i] := ⟨_, rfl⟩
                  rw [← hx] at c0 c1 c2 c3 hm htm hA h0 HN
                  clear hx
                  have hA' : ¬ (ab : Int) ≤ (x.id : Int) := by omega
                  have C := Lib.hid (fun b => may_any x b)
                  rw [hm, ver] at C
                  have h0' : ((x.id : Int) == 0) = true := by simp [h0]
                  clear hm h0
                  go_wp2_with fail
                  refine (C.out _).mono ?_
                  rintro e w1 ⟨rfl, q1⟩
                  obtain ⟨b0, b1, b2, b3⟩ := box_of q1
                  have q2 := (q.alloc _).trans q1
                  go_wp2
                  go_roundw
                  case rel => exact ⟨i + 1, ab, true, x.tm, by omega, hab, by go_num, rfl, rfl, rfl, q2, HN⟩
                  case measure => simp [intOf]; omega
              · have HN := Lib.hid (chkI_more HI.out hlt (chkI_step HI.out hlt hm htm hA (fun e => h0 e.1)) h0 hA)
                obtain ⟨x, hx⟩ : ∃ x, x = l[i] := ⟨_, rfl⟩
                rw [← hx] at c0 c1 c2 c3 hm htm hA h0 HN
                clear hx
                have hA' : ¬ (ab : Int) ≤ (x.id : Int) := by omega
                have C := Lib.hid (fun b => may_any x b)
                have hx48 : x.id ≤ 281474976710656 := by omega
                rw [hm, ver] at C
                have h0' : ((x.id : Int) == 0) = false := by
                  have : ¬ (x.id : Int) = 0 := by omega
                  simpa using this
                clear hm h0
                go_wp2_with fail
                refine (C.out _).mono ?_
                rintro e w1 ⟨rfl, q1⟩
                obtain ⟨b0, b1, b2, b3⟩ := box_of q1
                have q2 := (q.alloc _).trans q1
                go_wp2
                go_roundw
                case rel => exact ⟨i + 1, x.id, ze, x.tm, by omega, hx48, by go_num, rfl, rfl, rfl, q2, HN⟩
                case measure => simp [intOf]; omega
      · have HV : Hid (chkE R = 0) := Lib.hid (by
          have := chk_end HR.out (fun j hj => HI.out.1 j (by omega))
          rw [this]; simp [h20, chkE])
        go_wp2
        go_ret
        exact ⟨by rw [HV.out]; rfl, q⟩
  · have h20' : (20 : Int) < (l.length : Int) := by omega
    have HV : Hid (chkE R = 1) := Lib.hid (by rw [chkP_no HR.out (fun o => h20 o.1)]; rfl)
    go_enter Try.func51, Try.ntmps51
    go_wp2
    go_ret
    exact ⟨by rw [HV.out]; rfl, Q.refl _⟩
end Go.Proofs.Ytipipjpdlblifaa
