/-
  Contract of the program's Check.
-/
import Derived.Test.YtipipjpdlblifaaEMay
import Derived.Test.YtipipjpdlblifaaPCheck
namespace Go.Proofs.Ytipipjpdlblifaa
open Go.ChangeShapes Go.WideShapes Go.ChangeAt Go.RowKit
set_option linter.unusedVariables false
set_option linter.unusedSimpArgs false

/-- The key ahead of entry i. -/
def lastK (l : List Ent) (i : Nat) : ByteArray := match i with
  | 0 => ⟨#[]⟩
  | j + 1 => if h : j < l.length then l[j].key else ⟨#[]⟩
theorem lastK_succ {l : List Ent} {i : Nat} (h : i < l.length) : lastK l (i + 1) = l[i].key := by rw [lastK, dif_pos h]
theorem leq_no {l : List Ent} {i : Nat} {x : ByteArray} (h : ∀ j (hj : j + 1 = i) (hl : j < l.length), ltB l[j].key x = true) (hx : 0 < x.size) (hi : i ≤ l.length) : ltB (lastK l i) x = true := by
  cases i with
  | zero =>
    unfold ltB lastK
    rw [toList_bl, toList_bl]
    cases e : bl x with
    | nil => have := bl_length x; rw [e] at this; simp at this; omega
    | cons a r => rfl
  | succ j =>
    rw [lastK, dif_pos (by omega)]
    exact h j rfl (by omega)
theorem leq_yes {l : List Ent} {i : Nat} {x : ByteArray} (h : ltB (lastK l i) x = true) : ∀ j (hj : j + 1 = i) (hl : j < l.length), ltB l[j].key x = true := by
  intro j hj hl
  subst hj
  rw [lastK, dif_pos hl] at h
  exact h
/-- The box of an entry, behind calls. -/
theorem boxE_of {w w1 : World} {k : ByteArray} {u : Value} (q : Q (w.alloc (.cells #[.string k, u] 61)) w1) : w1.cell? ⟨w.heap.size, 0, none⟩ = some (.string k) ∧ w1.cell? ⟨w.heap.size, 1, none⟩ = some u := by
  have c : ∀ j, w1.cell? ⟨w.heap.size, j, none⟩ = (w.alloc (.cells #[.string k, u] 61)).cell? ⟨w.heap.size, j, none⟩ := fun j => Below.cell q (p := ⟨w.heap.size, j, none⟩) (by simp)
  refine ⟨(c 0).trans ?_, (c 1).trans ?_⟩ <;> simp [go_sem]
set_option maxHeartbeats 4000000 in
theorem checkE_any (l : List Ent) (v : Value) (w : World) (R : Bool) (hR : chkI l R) (hs : Small l) (ht : Ents w w.heap.size v l) :
    Calls Try.prog 40 #[v] w fun e w' => e = .returned (.int .i64 (chkE R)) ∧ Q w w' := by
  have HT := Lib.hid ht
  have HR := Lib.hid hR
  have HS := Lib.hid hs
  have hl := hs.1
  obtain ⟨A, c, rfl⟩ := ht.form
  clear ht hR hs
  by_cases h60 : l.length ≤ 60
  · have h60' : ¬ (60 : Int) < (l.length : Int) := by omega
    go_enter Try.func40, Try.ntmps40
    go_wp2_with fail
    go_loopw [3, 11] (fun Z I wr => ∃ i : Nat, ∃ z : ByteArray, i ≤ l.length ∧ I = .int .i64 i ∧ Z = .string z ∧ Hid (z = lastK l i) ∧ Q w wr ∧ Hid (∀ j, j < i → stepI l j)) (fun _ I _ => l.length - (intOf I).toNat)
    case atStart => exact ⟨0, _, Nat.zero_le _, rfl, rfl, Lib.hid rfl, Q.refl _, Lib.hid (fun j h => by omega)⟩
    case round =>
      obtain ⟨i, z, hil, rfl, rfl, HZ, q0, HK⟩ := hrel
      by_cases hlt : i < l.length
      · obtain ⟨a, c', hv, ha, A2, c2, hvs, hat⟩ := HT.out.pick i hlt
        injection hv with e1 e2 e3
        subst e1 e3
        have hsm := HS.out.2 _ (List.getElem_mem hlt)
        have hilt : (i : Int) < (l.length : Int) := by omega
        have hz2 := lastK_succ hlt
        obtain ⟨e, he⟩ : ∃ e, e = l[i] := ⟨_, rfl⟩
        rw [← he] at hvs hat hsm hz2
        have HE := Lib.hid he
        clear he
        obtain ⟨x, L⟩ := e
        simp only at hvs hat hsm hz2
        have NO : (hasO 1 60 ko x = true → 0 < L.length → okP L → ltB z x = true → False) → R = false := fun h => chkI_no HR.out fun o => by
          obtain ⟨h1, h2, h3, h4⟩ := o.2 i hlt
          rw [← HE.out] at h1 h2 h3
          refine h h1 h2 h3 ?_
          rw [HZ.out]
          refine leq_no (fun j hj hl => ?_) (hasO_size h1).1 hil
          have := h4 j hj
          rwa [← HE.out] at this
        have YES : hasO 1 60 ko x = true → 0 < L.length → okP L → ltB z x = true → ∀ j, j < i + 1 → stepI l j := fun h1 h2 h3 h4 j hj => by
          by_cases e : j = i
          · subst e
            intro h
            refine ⟨by rw [← HE.out]; exact h1, by rw [← HE.out]; exact h2, by rw [← HE.out]; exact h3, fun j' hj' => ?_⟩
            rw [HZ.out] at h4
            have := leq_yes h4 j' hj' (by omega)
            rw [← HE.out]; exact this
          · exact HK.out j (by omega)
        have HZ2 := Lib.hid hz2.symm
        obtain ⟨n, hn⟩ : ∃ n, L.length = n := ⟨_, rfl⟩
        have hvs : Vers w w.heap.size (.slice A2 n c2) L := by rw [← hn]; exact hvs
        obtain ⟨d0, d1⟩ := hat _ q0
        have hl2 := hsm.2.1
        rw [hn] at NO YES d1
        have q1 := q0.alloc (.cells #[.string x, .slice A2 n c2] 61)
        have q2 := (Q.refl wr).alloc (.cells #[.string x, .slice A2 n c2] 61)
        have MK := Lib.hid fun d => key_any x d hsm.1
        have HN := Lib.hid hn
        clear hn hat hz2
        cases hk : hasO 1 60 ko x with
        | false =>
          rw [hk] at MK
          have HV := Lib.hid (NO fun h => by rw [hk] at h; simp at h)
          clear NO YES hk hvs hsm hl2
          go_wp2_with fail
          refine (MK.out _).mono ?_
          rintro e w1 ⟨rfl, q3⟩
          go_wp2
          go_ret
          exact ⟨by rw [HV.out]; rfl, q1.trans q3⟩
        | true =>
          rw [hk] at MK
          have hle := ltB_leq x z
          cases hlt2 : ltB z x with
          | false =>
            rw [hlt2] at hle
            have HV := Lib.hid (NO fun _ _ _ h => by rw [hlt2] at h; simp at h)
            have hle2 : (Op.bytesLess x.toList z.toList || x.toList == z.toList) = true := hle
            clear NO YES hk hvs hsm hl2 hle hlt2
            go_wp2_with fail
            refine (MK.out _).mono ?_
            rintro e w1 ⟨rfl, q3⟩
            obtain ⟨b0, b1⟩ := boxE_of q3
            go_wp2
            go_ret
            exact ⟨by rw [HV.out]; rfl, q1.trans q3⟩
          | true =>
            rw [hlt2] at hle
            have hle2 : (Op.bytesLess x.toList z.toList || x.toList == z.toList) = false := hle
            have hle3 : Op.bytesLess x.toList z.toList = false := by cases h : Op.bytesLess x.toList z.toList with
              | false => rfl
              | true => rw [h] at hle2; simp at hle2
            have hle4 : (x.toList == z.toList) = false := by rw [hle3] at hle2; simpa using hle2
            clear hle
            by_cases h0 : n = 0
            · have HV := Lib.hid (NO fun _ h => by omega)
              have hne : ((n : Int) == 0) = true := by simp [h0]
              clear NO YES hk hvs hsm hl2 h0
              go_wp2_with fail
              refine (MK.out _).mono ?_
              rintro e w1 ⟨rfl, q3⟩
              obtain ⟨b0, b1⟩ := boxE_of q3
              go_wp2
              go_ret
              exact ⟨by rw [HV.out]; rfl, q1.trans q3⟩
            · obtain ⟨C, hC⟩ := chkP_ex L
              have MC : Hid (∀ b, Q w b → Calls Try.prog 51 #[.slice A2 n c2] b fun e w' => e = .returned (.int .i64 (chkE C)) ∧ Q b w') := Lib.hid (fun b q => check_any L _ b C hC hl2 (hvs.on q))
              have hne : ((n : Int) == 0) = false := by
                have : ¬ (n : Int) = 0 := by omega
                simpa using this
              rcases hC with ⟨rfl, hok⟩ | ⟨rfl, hno⟩
              · have HK2 := Lib.hid (YES hk (by omega) hok hlt2)
                rw [show chkE true = 0 from rfl] at MC
                clear NO YES hk hvs h0 hsm hl2 hlt2 hok
                go_wp2_with fail
                refine (MK.out _).mono ?_
                rintro e w1 ⟨rfl, q3⟩
                obtain ⟨b0, b1⟩ := boxE_of q3
                go_wp2_with fail
                refine (MC.out _ (q1.trans q3)).mono ?_
                rintro e w2 ⟨rfl, q4⟩
                go_wp2
                go_roundw
                case rel => exact ⟨i + 1, x, by omega, by go_num, rfl, HZ2, (q1.trans q3).trans q4, HK2⟩
                case measure => simp [intOf]; omega
              · have HV := Lib.hid (NO fun _ _ h => absurd h hno)
                rw [show chkE false = 1 from rfl] at MC
                clear NO YES hk hvs h0 hsm hl2 hlt2 hno
                go_wp2_with fail
                refine (MK.out _).mono ?_
                rintro e w1 ⟨rfl, q3⟩
                obtain ⟨b0, b1⟩ := boxE_of q3
                go_wp2_with fail
                refine (MC.out _ (q1.trans q3)).mono ?_
                rintro e w2 ⟨rfl, q4⟩
                go_wp2
                go_ret
                exact ⟨by rw [HV.out]; rfl, (q1.trans q3).trans q4⟩
      · have HV := Lib.hid (chkI_end HR.out (fun j h => HK.out j (by omega)))
        go_wp2
        go_ret
        exact ⟨by rw [HV.out]; simp [h60, chkE], q0⟩
  · have HV := Lib.hid (chkI_no HR.out fun o => h60 o.1)
    have h60' : (60 : Int) < (l.length : Int) := by omega
    go_enter Try.func40, Try.ntmps40
    go_wp2
    go_ret
    exact ⟨by rw [HV.out]; rfl, Q.refl _⟩
end Go.Proofs.Ytipipjpdlblifaa
