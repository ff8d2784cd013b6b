/-
  Proved: whatever acts ChainOff is called with, it returns true and leaves what it was given as it was. No condition.
-/
import Derived.Test.YtflfhigldkdlmaaVTurn
namespace Go.Proofs.Ytflfhigldkdlmaa.chainOff
open Go.ChangeShapes Go.WideShapes Go.ChangeAt Go.RowKit
open Go.ChangeMaps (open_string shut_string)
set_option linter.unusedVariables false
set_option linter.unusedSimpArgs false

theorem oneV_form (i : Nat) (d : ByteArray) (m : Bool) (t : Int) : ∃ dd, oneV ⟨i, d, m, t⟩ = ⟨i, dd, m, t⟩ ∧ dd.size ≤ 2001 := by
  have := oneV_size ⟨i, d, m, t⟩
  unfold oneV at this ⊢
  split
  · rename_i h
    rw [if_pos h] at this
    exact ⟨_, rfl, this⟩
  · rename_i h
    rw [if_neg h] at this
    exact ⟨_, rfl, this⟩
/-- What a chain is that is Off. -/
def OffI (m : List Ver) (i : Nat) : Prop := okP m ∧ (∀ x ∈ m, okV x) ∧ (m = [] ∨ ∃ z, m = [z] ∧ z.id = 0 ∧ z.tm ≤ (i : Int))
theorem off_wo {m : List Ver} {i : Nat} (h : OffI m i) : woV m 0 = [] := by
  rcases h.2.2 with rfl | ⟨z, rfl, hz, -⟩
  · rfl
  · simp [woV, hz]
theorem off_put {m : List Ver} {i : Nat} {dd : ByteArray} (h : OffI m i) (hi : i ≤ 20) (hd : dd.size ≤ 2000) : PutC m 0 ⟨0, dd, false, i⟩ [⟨0, dd, false, i⟩] 0 := by
  have hm : mayV ⟨0, dd, false, i⟩ = true := mayV_iff.2 ⟨by show 0 ≤ 281474976710655; omega, hd, by simp, by simp, by show (i : Int) ≤ 1099511627775; omega⟩
  have k : PutC m 0 ⟨0, dd, false, i⟩ (zeroId ⟨0, dd, false, i⟩ :: woV m 0) 0 := by
    refine .over h.1 (.inl rfl) hm (fun y r e => ?_) (by rw [off_wo h]; simp)
    rcases h.2.2 with e2 | ⟨z, e2, -, hz⟩
    · rw [e2] at e; simp at e
    · rw [e2] at e
      injection e with e _
      subst e
      exact hz
  rw [off_wo h] at k
  exact k
theorem off_large {m : List Ver} {i : Nat} {dd : ByteArray} (h : OffI m i) (hd : ¬ dd.size ≤ 2000) : PutC m 0 ⟨0, dd, false, i⟩ [] 1 := by
  refine .may h.1 (by omega) (by omega) ?_
  cases e : mayV ⟨0, dd, false, i⟩ with
  | false => rfl
  | true => exact absurd (mayV_iff.1 e).2.1 hd
theorem off_one {i : Nat} {dd : ByteArray} (hi : i ≤ 20) (hd : dd.size ≤ 2000) (hok : okV ⟨0, dd, false, i⟩) {m : List Ver} (h : OffI m i) : OffI [⟨0, dd, false, i⟩] (i + 1) :=
  ⟨putC_ok (off_put h hi hd), by simpa using hok, .inr ⟨_, rfl, rfl, by show (i : Int) ≤ ((i + 1 : Nat) : Int); omega⟩⟩
theorem off_more {m : List Ver} {i : Nat} (h : OffI m i) : OffI m (i + 1) := by
  refine ⟨h.1, h.2.1, ?_⟩
  rcases h.2.2 with e | ⟨z, e, hz, ht⟩
  · exact .inl e
  · exact .inr ⟨z, e, hz, by omega⟩
set_option maxHeartbeats 4000000 in
set_option maxRecDepth 100000 in
theorem walk (l : List Act') (v : Value) (w : World) (t0 : Acts w w.heap.size v l) (z0 : l.length ≤ maxLen) :
    Calls Try.prog 7 #[v] w fun e w' => e = .returned (.bool true) ∧ Q w w' := by
  unfold maxLen at z0
  obtain ⟨A, c, rfl, hoa, hcs⟩ := t0
  have HC := Lib.hid hcs
  have HA := Lib.hid hoa
  clear hcs hoa
  go_enter Try.func7, Try.ntmps7
  go_wp2_with fail
  go_loopw [3, 4, 5, 6, 7] (fun C I _ _ _ wr => ∃ (i : Nat) (m : List Ver), i ≤ l.length ∧ i ≤ 20 ∧ I = .int .i64 i ∧ OwnV w.heap.size wr C m ∧ Hid (OffI m i) ∧ Q w wr) (fun _ I _ _ _ _ => 20 - (intOf I).toNat)
  case atStart => exact ⟨0, [], Nat.zero_le _, by omega, rfl, OwnV.nil _ _, Lib.hid ⟨okP_nil, by simp, .inl rfl⟩, Q.refl _⟩
  case round =>
    obtain ⟨i, m, hil, hi20, rfl, ho, HO, q⟩ := hrel
    by_cases hlt : i < l.length
    · by_cases h20 : i < 20
      · obtain ⟨a, rfl, ha, hat⟩ := HC.out i hlt
        have hilt : (i : Int) < (l.length : Int) := by omega
        have hi20' : (i : Int) < 20 := by omega
        obtain ⟨x, hx⟩ : ∃ x, x = l[i] := ⟨_, rfl⟩
        have hax := HA.out _ (List.getElem_mem hlt)
        rw [← hx] at hat hax
        have AT : Hid (∀ b, Q w b → AtA b (a.add (i * 3)) x) := Lib.hid (fun b q => hat.keep (by rw [add_block]; exact ha) fun _ hp => q.cell hp)
        clear hat hx
        obtain ⟨dd, hdd, hsz⟩ := oneV_form 0 x.data false i
        have hok0 : okV ⟨0, x.data, false, (i : Int)⟩ := ⟨by show 0 < 18446744073709551616; omega, hax.2, by show -9223372036854775808 ≤ (i : Int); omega, by show (i : Int) ≤ 9223372036854775807; omega⟩
        have hok : okV ⟨0, dd, false, (i : Int)⟩ := by rw [← hdd]; exact oneV_ok hok0
        have ON : Hid (∀ b, Calls Try.prog 11 #[.agg #[.int .u64 0, .string x.data, .bool false, .int .i64 (i : Nat)]] b fun e w' => e = .returned (.agg #[.int .u64 0, .string dd, .bool false, .int .i64 (i : Nat)]) ∧ Q b w') := Lib.hid (fun b => by
          have := one_any ⟨0, x.data, false, i⟩ b hok0
          rw [hdd] at this
          exact this)
        clear hdd hok0 hax
        obtain ⟨c0, c1, c2⟩ := AT.out _ q
        cases hdel : x.del
        case true =>
          go_wp2_with fail
          refine (ON.out _).mono ?_
          rintro e w1 ⟨rfl, q1⟩
          have q2 := (q.trans q1).alloc (.cells #[.int .u64 0, .string dd, .bool false, .int .i64 (i : Nat)] 25)
          have ho2 := OwnV.on ho (q1.alloc (.cells #[.int .u64 0, .string dd, .bool false, .int .i64 (i : Nat)] 25))
          have tm := ho2.vers HO.out.2.1
          obtain ⟨d0, d1, d2⟩ := AT.out _ q2
          rw [hdel] at d1
          clear hdel c0 c1 c2 ho
          rcases HO.out.2.2 with rfl | ⟨z, rfl, hz, htz⟩
          · have DE := Lib.hid (delete_any [] _ 0 9 i _ [] 4 (.inl ⟨rfl, .none okP_nil (by simp)⟩) (by simp) (by omega) (by omega) (by omega) tm)
            obtain ⟨A3, c3, rfl⟩ := own_len ho2
            simp only [List.length_nil] at DE ⊢
            go_wp2_with fail
            refine (DE.out).mono ?_
            rintro e w2 ⟨v2, rfl, o2, q3⟩
            obtain ⟨A4, c4, rfl⟩ := own_len o2
            simp only [List.length_nil] at ho2 ⊢
            go_wp2
            go_roundw
            case rel => exact ⟨i + 1, [], by omega, by omega, by go_num, OwnV.on ho2 q3, Lib.hid (off_more HO.out), q2.trans q3⟩
            case measure => simp [intOf]; omega
          · have DE := Lib.hid (delete_any [z] _ 0 9 i _ (woV [z] 0) 0 (.inl ⟨rfl, .yes HO.out.1 ⟨0, by simp, hz⟩⟩) (by simp) (by omega) (by omega) (by omega) tm)
            rw [off_wo HO.out] at DE
            obtain ⟨A3, c3, rfl⟩ := own_len ho2
            simp only [List.length_singleton] at DE ⊢
            clear hz htz
            go_wp2_with fail
            refine (DE.out).mono ?_
            rintro e w2 ⟨v2, rfl, o2, q3⟩
            have o3 := OwnV.lower o2 q2.size
            obtain ⟨A4, c4, rfl⟩ := own_len o2
            simp only [List.length_nil] at o3 ⊢
            go_wp2
            go_roundw
            case rel => exact ⟨i + 1, [], by omega, by omega, by go_num, o3, Lib.hid ⟨okP_nil, by simp, .inl rfl⟩, q2.trans q3⟩
            case measure => simp [intOf]; omega
        case false =>
          go_wp2_with fail
          refine (ON.out _).mono ?_
          rintro e w1 ⟨rfl, q1⟩
          have q2 := (q.trans q1).alloc (.cells #[.int .u64 0, .string dd, .bool false, .int .i64 (i : Nat)] 25)
          have ho2 := OwnV.on ho (q1.alloc (.cells #[.int .u64 0, .string dd, .bool false, .int .i64 (i : Nat)] 25))
          have tm := ho2.vers HO.out.2.1
          obtain ⟨d0, d1, d2⟩ := AT.out _ q2
          rw [hdel] at d1
          have hml : m.length ≤ 900 := by have := HO.out.1.1; omega
          clear hdel c0 c1 c2 ho
          by_cases hd : dd.size ≤ 2000
          · have PU := Lib.hid (put_any m _ 0 ⟨0, dd, false, i⟩ _ _ 0 (off_put HO.out (by omega) hd) hml hok tm)
            have HN := Lib.hid (off_one (by omega) hd hok HO.out)
            have hd1 : (dd.size : Int) ≤ 2000 := by omega
            have hd2 : decide ((dd.size : Int) ≤ 2000) = true := decide_eq_true hd1
            have hd3 : decide (dd.size ≤ 2000) = true := decide_eq_true hd
            go_wp2_with fail
            refine (PU.out).mono ?_
            rintro e w2 ⟨v2, rfl, o2, q3⟩
            have q4 := q2.trans q3
            have o3 := OwnV.lower o2 q2.size
            obtain ⟨b0, b1, b2, b3⟩ := box_of q3
            obtain ⟨A4, c4, rfl, -, -, -, h4⟩ := o2.vers (by simpa using hok)
            obtain ⟨a4, rfl, -, hat4⟩ := h4 0 (by simp)
            rw [Nat.zero_mul, show a4.add 0 = a4 by cases a4; simp [Addr.add], List.getElem_cons_zero] at hat4
            obtain ⟨g0, g1, g2, g3⟩ := hat4
            simp only [Int.ofNat_zero, Int.natCast_zero] at g0 g1 g2 g3
            simp only [List.length_singleton] at o3 ⊢
            clear h4 o2
            go_wp2_with fail
            go_quiet (fail)
            go_wp2
            go_roundw
            case rel => exact ⟨i + 1, _, by omega, by omega, by go_num, o3.on ((Q.refl _).drewN _), HN, q4.drewN _⟩
            case measure => simp [intOf]; omega
          · have PU := Lib.hid (put_any m _ 0 ⟨0, dd, false, i⟩ _ _ 1 (off_large HO.out hd) hml hok tm)
            have hd1 : ¬ (dd.size : Int) ≤ 2000 := by omega
            have hd2 : decide ((dd.size : Int) ≤ 2000) = false := decide_eq_false hd1
            have hd3 : decide (dd.size ≤ 2000) = false := decide_eq_false hd
            go_wp2_with fail
            refine (PU.out).mono ?_
            rintro e w2 ⟨v2, rfl, o2, q3⟩
            have q4 := q2.trans q3
            obtain ⟨b0, b1, b2, b3⟩ := box_of q3
            obtain ⟨A4, c4, rfl⟩ := own_len o2
            simp only [List.length_nil]
            go_wp2_with fail
            go_quiet (fail)
            go_wp2
            go_roundw
            case rel => exact ⟨i + 1, m, by omega, by omega, by go_num, (OwnV.on ho2 q3).on ((Q.refl _).drewN _), Lib.hid (off_more HO.out), q4.drewN _⟩
            case measure => simp [intOf]; omega
      · have h20' : ¬ (i : Int) < 20 := by omega
        have hilt : (i : Int) < (l.length : Int) := by omega
        go_wp2_with fail
        refine (awake_any _).mono ?_
        rintro e w1 ⟨rfl, q1⟩
        go_wp2
        go_ret
        exact ⟨rfl, q.trans q1⟩
    · have hilt : ¬ (i : Int) < (l.length : Int) := by omega
      go_wp2_with fail
      refine (awake_any _).mono ?_
      rintro e w1 ⟨rfl, q1⟩
      go_wp2
      go_ret
      exact ⟨rfl, q.trans q1⟩

set_option maxRecDepth 100000 in
theorem lifted (os : Os) (started : os.Started) (H : Type) (enc : TypeId × Value → H) :
    ReturnsInHanded {} Try.checked os 7 .any (Rows.chainOffSpec.pre6 enc Try.prog Try.f7 Rows.chainOffRow.domain false) (Rows.chainOffSpec.post enc Try.prog Try.f7 false true false false) := by
  refine returnsInHanded_of_change (C := Try.checked) own started (by kernel_rfl) Try.func7
    (ChangeSpec.witness6 (enc := enc) (C := Try.checked) false ⟨#[], #[.slice none 0 0], []⟩ 8 (by kernel_rfl) (by kernel_rfl) (by kernel_rfl) (by kernel_rfl)) ?_
  intro W base args ds gs before hval0 hW hcnd _
  have hval : ∀ (j : Nat) t v, Try.f7.params[j]? = some t → args[j]? = some v → Value.okWide Try.prog W .any base t v := hval0
  have hW' := hW
  obtain ⟨p, q, hA0, hV, rfl, hfz, hnd⟩ := hW
  have hA : DataW.TrodAll enc Try.prog W 0 (fun _ => true) true Try.f7.params.toList args.toList ds p := hA0
  rw [Try.params7] at hA hval
  obtain ⟨v0, vs0, d0, ds0, p0, q0, hargs, rfl, rfl, h0, r0⟩ := trodAll_cons hA
  obtain ⟨rfl, rfl, rfl⟩ := trodAll_nil r0
  obtain rfl : args = #[v0] := by cases args; simp_all
  obtain ⟨rfl, rfl⟩ := trodVars_none hV
  clear hA0 hval0
  simp only [List.append_nil] at hW'
  have hlt : ∀ x ∈ p0, x.block < W.heap.size := fun x hx => by simpa using hW'.lt x (by simpa using hx)
  obtain ⟨l0, t0, z0⟩ := open_acts (hval 0 49 v0 rfl rfl) h0
  refine (walk l0 v0 W t0 z0).mono fun e W' ⟨he, bel⟩ => ?_
  subst he
  refine ⟨_, rfl, _, _, _, [], _, [], hW', trodAll_mk1 (shut_bool Try.underlying4 _), (trodAll_cons_mk (Below.trod laid (by kernel_rfl) (of_decide_eq_true (by kernel_rfl)) h0 bel (fun x hx => hlt x (by simp [hx]))) trodAll_mk0), rfl, Below.frame bel _, fun h => by cases h⟩

theorem over : Rows.chainOffRow.holds Try.pinned (OpenSpec.ofChange Rows.chainOffSpec) :=
  OpenClaim.holds_of_wide 7 Try.f7 rfl rfl rfl rfl rfl rfl rfl ⟨rfl, rfl, rfl, rfl, rfl⟩ rfl rfl rfl rfl rfl (by kernel_rfl) Try.func7 (by kernel_rfl)
    (of_decide_eq_true (by kernel_rfl)) (by unfold Func.isWrapper; first | (rw [if_pos (by decide +kernel)]; kernel_rfl) | (rw [if_neg (by decide +kernel)]; exact ⟨rfl, rfl⟩))
    (fun os started H enc _ => lifted os started H enc)

theorem proved : Rows.ChainOffSaid := over
#print axioms proved
end Go.Proofs.Ytflfhigldkdlmaa.chainOff
