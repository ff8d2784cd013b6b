/-
  Proved: whatever two numbers WireNums is called with, it returns true. No condition.
-/
import Derived.Test.YtneclkkbgonkcaaWAwake
import Derived.Test.YtneclkkbgonkcaaCoreOpen
namespace Go.Proofs.Ytneclkkbgonkcaa.wireNums
open Go.ChangeShapes Go.WideShapes Go.ChangeAt Go.RowKit
open Go.ChangeMaps (open_string shut_string)
set_option linter.unusedVariables false

theorem val_split (l : List UInt8) (k : Nat) (h : k ≤ l.length) : val l = val (l.take k) + 256 ^ k * val (l.drop k) := by
  induction k generalizing l with
  | zero => simp [val]
  | succ k ih =>
    cases l with
    | nil => simp at h
    | cons c r =>
      rw [List.take_succ_cons, List.drop_succ_cons, val, val, ih r (by simpa using h), Nat.pow_succ, Nat.mul_add, Nat.mul_comm (256 ^ k) 256, Nat.mul_assoc]
      omega
/-- Of two numbers whose upper octets are the same the one with the greater octet is the greater one. -/
theorem val_gt {s t : List UInt8} {k : Nat} (hs : k < s.length) (ht : k < t.length) (hd : s.drop (k + 1) = t.drop (k + 1)) (h : t[k].toNat < s[k].toNat) : val t < val s := by
  rw [val_split s k (by omega), val_split t k (by omega), List.drop_eq_getElem_cons hs, List.drop_eq_getElem_cons ht, val, val, hd]
  have h1 := val_lt (t.take k)
  have h2 : (t.take k).length = k := by rw [List.length_take]; omega
  rw [h2] at h1
  have h3 : 256 ^ k * (t[k].toNat + 256 * val (t.drop (k + 1)) + 1) ≤ 256 ^ k * (s[k].toNat + 256 * val (t.drop (k + 1))) := Nat.mul_le_mul_left _ (by omega)
  rw [Nat.mul_add (256 ^ k) (t[k].toNat + _) 1] at h3
  omega
theorem at_drop {s t : ByteArray} {k : Nat} (hs : k < s.size) (ht : k < t.size) (hd : (bl s).drop (k + 1) = (bl t).drop (k + 1)) (e : s[k].toNat = t[k].toNat) : (bl s).drop k = (bl t).drop k := by
  have e1 := List.drop_eq_getElem_cons (l := bl s) (i := k) (by rw [bl_length]; exact hs)
  have e2 := List.drop_eq_getElem_cons (l := bl t) (i := k) (by rw [bl_length]; exact ht)
  rw [bl_get s k hs] at e1
  rw [bl_get t k ht] at e2
  rw [e1, e2, hd, UInt8.toNat_inj.1 e]
theorem gt_at {s t : ByteArray} {k : Nat} (hs : k < s.size) (ht : k < t.size) (hd : (bl s).drop (k + 1) = (bl t).drop (k + 1)) (h : t[k].toNat < s[k].toNat) : val (bl t) < val (bl s) :=
  val_gt (by rw [bl_length]; exact hs) (by rw [bl_length]; exact ht) hd h

theorem nat64 {a : Int} (h : (Lit.int .u64 a).wf = true) : ∃ n : Nat, a = n ∧ n < 18446744073709551616 := by
  have : 0 ≤ a ∧ a ≤ 18446744073709551615 := by simpa [Lit.wf, IntKind.min, IntKind.max, IntKind.signed, IntKind.bits] using h
  exact ⟨a.toNat, by omega, by omega⟩

set_option maxHeartbeats 4000000 in
set_option maxRecDepth 100000 in
theorem body (a b : Nat) (ha : a < 18446744073709551616) (hb : b < 18446744073709551616) (w : World) :
    Calls Try.prog 7 #[.int .u64 a, .int .u64 b] w fun e w' => e = .returned (.bool true) ∧ Q w w' := by
  have N1 := Lib.hid fun w => num_any a w ha
  have N2 := Lib.hid fun w => num_any b w hb
  obtain ⟨S, hS⟩ : ∃ S, S = mk (oct a 8) := ⟨_, rfl⟩
  obtain ⟨T, hT⟩ : ∃ T, T = mk (oct b 8) := ⟨_, rfl⟩
  have h8 : (256 : Nat) ^ 8 = 18446744073709551616 := by decide
  have vS : val (bl S) = a := by rw [hS, bl_mk, val_oct, h8, Nat.mod_eq_of_lt ha]
  have vT : val (bl T) = b := by rw [hT, bl_mk, val_oct, h8, Nat.mod_eq_of_lt hb]
  have lS : S.size = 8 := by rw [hS, mk_size, oct_length]
  have lT : T.size = 8 := by rw [hT, mk_size, oct_length]
  have eST := eq_texts S T
  rw [← hS] at N1
  rw [← hT] at N2
  have hne : ∀ k (hs : k < S.size) (ht : k < T.size), S = T → S[k].toNat = T[k].toNat := by intro k hs ht e; subst e; rfl
  have hall : (bl S).drop 0 = (bl T).drop 0 → S = T := fun e => bl_inj e
  have hab : S = T ↔ a = b := ⟨fun e => by rw [← vS, ← vT, e], fun e => by rw [hS, hT, e]⟩
  have VS := Lib.hid vS; have VT := Lib.hid vT; have HN := Lib.hid hne; have HA := Lib.hid hall; have HAB := Lib.hid hab
  clear hne hall hab vS vT hS hT h8
  have bS : (S.size : Int) = 8 := by omega
  have bT : (T.size : Int) = 8 := by omega
  have LS := Lib.hid lS; have LT := Lib.hid lT
  clear lS lT
  by_cases hab : a = b
  · have h1 : (S.toList == T.toList) = true := by rw [eST]; simpa using HAB.out.2 hab
    have H := Lib.hid hab
    have g1 : decide (b < a) = false := by simp; omega
    have g2 : ((a : Int) == (b : Int)) = true := by simp; omega
    have g3 : (a == b) = true := by simp; omega
    clear eST hab
    go_enter Try.func7, Try.ntmps7
    go_wp2_with fail
    refine (N1.out _).mono ?_
    rintro e x1 ⟨rfl, q1⟩
    go_wp2_with fail
    refine (N2.out _).mono ?_
    rintro e x2 ⟨rfl, q2⟩
    have hq := q1.trans q2
    clear q1 q2
    go_wp2_with fail
    clear bS bT
    go_loopw [7, 8] (fun g i wr => ∃ z : Int, -1 ≤ z ∧ z ≤ 7 ∧ g = .bool false ∧ i = .int .i64 z ∧ Hid ((bl S).drop (z + 1).toNat = (bl T).drop (z + 1).toNat) ∧ Q w wr) (fun _ i _ => (intOf i + 1).toNat)
    case atStart => exact ⟨7, by omega, by omega, rfl, rfl, Lib.hid (by rw [List.drop_eq_nil_of_le (by rw [bl_length, LS.out]; decide), List.drop_eq_nil_of_le (by rw [bl_length, LT.out]; decide)]), hq⟩
    case round =>
      obtain ⟨z, hz0, hz1, rfl, rfl, HD, hr⟩ := hrel
      by_cases hz : 0 ≤ z
      · obtain ⟨k, rfl⟩ : ∃ k : Nat, z = k := ⟨z.toNat, by omega⟩
        have kS : k < S.size := by rw [LS.out]; omega
        have kT : k < T.size := by rw [LT.out]; omega
        have HD' : Hid ((bl S).drop (k + 1) = (bl T).drop (k + 1)) := Lib.hid HD.out
        have he := HN.out k kS kT (HAB.out.2 H.out)
        have he' : ((S[k].toNat : Int) == (T[k].toNat : Int)) = true := by simp [he]
        have HE := Lib.hid he
        clear he
        go_wp2_with fail
        go_region
        go_wp2
        go_roundw
        case rel => exact ⟨(k : Int) - 1, by omega, by omega, rfl, by go_num, Lib.hid (by rw [show ((k : Int) - 1 + 1).toNat = k by omega]; exact at_drop kS kT HD'.out HE.out), hr.drew⟩
        case measure => simp [intOf]
      · obtain rfl : z = -1 := by omega
        go_wp2_with fail
        refine (awake_any _).mono ?_
        rintro e x3 ⟨rfl, qa⟩
        go_wp2
        go_ret
        exact ⟨rfl, hr.trans qa⟩
  · have h1 : (S.toList == T.toList) = false := by rw [eST]; simpa using fun e => hab (HAB.out.1 e)
    have g2 : ((a : Int) == (b : Int)) = false := by simp; omega
    have g3 : (a == b) = false := by simp; omega
    clear eST
    by_cases hlt : a < b
    · have g1 : decide (b < a) = false := by simp; omega
      go_enter Try.func7, Try.ntmps7
      go_wp2_with fail
      refine (N1.out _).mono ?_
      rintro e x1 ⟨rfl, q1⟩
      go_wp2_with fail
      refine (N2.out _).mono ?_
      rintro e x2 ⟨rfl, q2⟩
      have hq := q1.trans q2
      clear q1 q2
      go_wp2_with fail
      clear bS bT
      go_loopw [7, 8] (fun g i wr => ∃ z : Int, -1 ≤ z ∧ z ≤ 7 ∧ g = .bool false ∧ i = .int .i64 z ∧ Hid ((bl S).drop (z + 1).toNat = (bl T).drop (z + 1).toNat) ∧ Q w wr) (fun _ i _ => (intOf i + 1).toNat)
      case atStart => exact ⟨7, by omega, by omega, rfl, rfl, Lib.hid (by rw [List.drop_eq_nil_of_le (by rw [bl_length, LS.out]; decide), List.drop_eq_nil_of_le (by rw [bl_length, LT.out]; decide)]), hq⟩
      case round =>
        obtain ⟨z, hz0, hz1, rfl, rfl, HD, hr⟩ := hrel
        by_cases hz : 0 ≤ z
        · obtain ⟨k, rfl⟩ : ∃ k : Nat, z = k := ⟨z.toNat, by omega⟩
          have kS : k < S.size := by rw [LS.out]; omega
          have kT : k < T.size := by rw [LT.out]; omega
          have HD' : Hid ((bl S).drop (k + 1) = (bl T).drop (k + 1)) := Lib.hid HD.out
          by_cases he : S[k].toNat = T[k].toNat
          · have he' : ((S[k].toNat : Int) == (T[k].toNat : Int)) = true := by simp [he]
            have HE := Lib.hid he
            clear he
            go_wp2_with fail
            go_region
            go_wp2
            go_roundw
            case rel => exact ⟨(k : Int) - 1, by omega, by omega, rfl, by go_num, Lib.hid (by rw [show ((k : Int) - 1 + 1).toNat = k by omega]; exact at_drop kS kT HD'.out HE.out), hr.drew⟩
            case measure => simp [intOf]
          · have he' : ((S[k].toNat : Int) == (T[k].toNat : Int)) = false := by simp; omega
            have hgt : S[k].toNat < T[k].toNat := by
              by_cases q : S[k].toNat < T[k].toNat
              · exact q
              · exact absurd (gt_at kS kT HD'.out (by omega)) (by rw [VS.out, VT.out]; omega)
            have hg' : decide (T[k].toNat < S[k].toNat) = false := by simp; omega
            go_wp2_with fail
            go_region
            go_wp2_with fail
            go_region
            go_wp2_with fail
            refine (awake_any _).mono ?_
            rintro e x3 ⟨rfl, qa⟩
            go_wp2
            go_ret
            exact ⟨rfl, hr.drew.drew.trans qa⟩
        · obtain rfl : z = -1 := by omega
          exact absurd (HAB.out.1 (HA.out HD.out)) hab
    · have g1 : decide (b < a) = true := by simp; omega
      go_enter Try.func7, Try.ntmps7
      go_wp2_with fail
      refine (N1.out _).mono ?_
      rintro e x1 ⟨rfl, q1⟩
      go_wp2_with fail
      refine (N2.out _).mono ?_
      rintro e x2 ⟨rfl, q2⟩
      have hq := q1.trans q2
      clear q1 q2
      go_wp2_with fail
      clear bS bT
      go_loopw [7, 8] (fun g i wr => ∃ z : Int, -1 ≤ z ∧ z ≤ 7 ∧ g = .bool false ∧ i = .int .i64 z ∧ Hid ((bl S).drop (z + 1).toNat = (bl T).drop (z + 1).toNat) ∧ Q w wr) (fun _ i _ => (intOf i + 1).toNat)
      case atStart => exact ⟨7, by omega, by omega, rfl, rfl, Lib.hid (by rw [List.drop_eq_nil_of_le (by rw [bl_length, LS.out]; decide), List.drop_eq_nil_of_le (by rw [bl_length, LT.out]; decide)]), hq⟩
      case round =>
        obtain ⟨z, hz0, hz1, rfl, rfl, HD, hr⟩ := hrel
        by_cases hz : 0 ≤ z
        · obtain ⟨k, rfl⟩ : ∃ k : Nat, z = k := ⟨z.toNat, by omega⟩
          have kS : k < S.size := by rw [LS.out]; omega
          have kT : k < T.size := by rw [LT.out]; omega
          have HD' : Hid ((bl S).drop (k + 1) = (bl T).drop (k + 1)) := Lib.hid HD.out
          by_cases he : S[k].toNat = T[k].toNat
          · have he' : ((S[k].toNat : Int) == (T[k].toNat : Int)) = true := by simp [he]
            have HE := Lib.hid he
            clear he
            go_wp2_with fail
            go_region
            go_wp2
            go_roundw
            case rel => exact ⟨(k : Int) - 1, by omega, by omega, rfl, by go_num, Lib.hid (by rw [show ((k : Int) - 1 + 1).toNat = k by omega]; exact at_drop kS kT HD'.out HE.out), hr.drew⟩
            case measure => simp [intOf]
          · have he' : ((S[k].toNat : Int) == (T[k].toNat : Int)) = false := by simp; omega
            have hgt : T[k].toNat < S[k].toNat := by
              by_cases q : T[k].toNat < S[k].toNat
              · exact q
              · exact absurd (gt_at kT kS HD'.out.symm (by omega)) (by rw [VS.out, VT.out]; omega)
            have hg' : decide (T[k].toNat < S[k].toNat) = true := by simp; omega
            go_wp2_with fail
            go_region
            go_wp2_with fail
            go_region
            go_wp2_with fail
            refine (awake_any _).mono ?_
            rintro e x3 ⟨rfl, qa⟩
            go_wp2
            go_ret
            exact ⟨rfl, hr.drew.drew.trans qa⟩
        · obtain rfl : z = -1 := by omega
          exact absurd (HAB.out.1 (HA.out HD.out)) hab
theorem walk (a0 a1 : Int) (w0 : (Lit.int .u64 a0).wf = true) (w1 : (Lit.int .u64 a1).wf = true) (w : World) :
    Calls Try.prog 7 #[.int .u64 a0, .int .u64 a1] w fun e w' => e = .returned (.bool true) ∧ Q w w' := by
  obtain ⟨a, rfl, ha⟩ := nat64 w0
  obtain ⟨b, rfl, hb⟩ := nat64 w1
  exact body a b ha hb w

set_option maxRecDepth 100000 in
theorem lifted (os : Os) (started : os.Started) (H : Type) (enc : TypeId × Value → H) :
    ReturnsInHanded {} Try.checked os 7 .any (Rows.wireNumsSpec.pre6 enc Try.prog Try.f7 Rows.wireNumsRow.domain false) (Rows.wireNumsSpec.post enc Try.prog Try.f7 false true false false) := by
  refine returnsInHanded_of_change (C := Try.checked) own started (by kernel_rfl) Try.func7
    (ChangeSpec.witness6 (enc := enc) (C := Try.checked) false ⟨#[], #[.int .u64 0, .int .u64 0], []⟩ 8 (by kernel_rfl) (by kernel_rfl) (by kernel_rfl) (by kernel_rfl)) ?_
  intro W base args ds gs before hval0 hW hcnd _
  have hval : ∀ (j : Nat) t v, Try.f7.params[j]? = some t → args[j]? = some v → Value.okWide Try.prog W .any base t v := hval0
  have hW' := hW
  obtain ⟨p, q, hA0, hV, rfl, hfz, hnd⟩ := hW
  have hA : DataW.TrodAll enc Try.prog W 0 (fun _ => true) true Try.f7.params.toList args.toList ds p := hA0
  rw [Try.params7] at hA hval
  obtain ⟨v0, vs0, d0, ds0, p0, q0, hargs, rfl, rfl, h0, r0⟩ := trodAll_cons hA
  obtain ⟨v1, vs1, d1, ds1, p1, q1, rfl, rfl, rfl, h1, r1⟩ := trodAll_cons r0
  obtain ⟨rfl, rfl, rfl⟩ := trodAll_nil r1
  obtain rfl : args = #[v0, v1] := by cases args; simp_all
  obtain ⟨rfl, rfl⟩ := trodVars_none hV
  clear hA0 hval0
  simp only [List.append_nil] at hW'
  have hlt : ∀ x ∈ p0 ++ p1, x.block < W.heap.size := fun x hx => by simpa using hW'.lt x (by simpa using hx)
  obtain ⟨a0, rfl, -, -, w0⟩ := open_int Try.underlying22 (hval 0 22 v0 rfl rfl) h0
  obtain ⟨a1, rfl, -, -, w1⟩ := open_int Try.underlying22 (hval 1 22 v1 rfl rfl) h1
  refine (walk a0 a1 w0 w1 W).mono fun e W' ⟨he, bel⟩ => ?_
  subst he
  refine ⟨_, rfl, _, _, _, [], _, [], hW', trodAll_mk1 (shut_bool Try.underlying4 _), (trodAll_cons_mk (Below.trod laid (by kernel_rfl) (of_decide_eq_true (by kernel_rfl)) h0 bel (fun x hx => hlt x (by simp [hx]))) (trodAll_cons_mk (Below.trod laid (by kernel_rfl) (of_decide_eq_true (by kernel_rfl)) h1 bel (fun x hx => hlt x (by simp [hx]))) trodAll_mk0)), rfl, Below.frame bel _, fun h => by cases h⟩

theorem over : Rows.wireNumsRow.holds Try.pinned (OpenSpec.ofChange Rows.wireNumsSpec) :=
  OpenClaim.holds_of_wide 7 Try.f7 rfl rfl rfl rfl rfl rfl rfl ⟨rfl, rfl, rfl, rfl, rfl⟩ rfl rfl rfl rfl rfl (by kernel_rfl) Try.func7 (by kernel_rfl)
    (of_decide_eq_true (by kernel_rfl)) (by unfold Func.isWrapper; first | (rw [if_pos (by decide +kernel)]; kernel_rfl) | (rw [if_neg (by decide +kernel)]; exact ⟨rfl, rfl⟩))
    (fun os started H enc _ => lifted os started H enc)

theorem proved : Rows.WireNumsSaid := over
#print axioms proved
end Go.Proofs.Ytneclkkbgonkcaa.wireNums
