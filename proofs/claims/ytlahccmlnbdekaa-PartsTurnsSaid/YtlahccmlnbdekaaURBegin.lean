/-
  Contract of the document's Begin.
-/
import Derived.Test.YtlahccmlnbdekaaUBegin
namespace Go.Proofs.Ytlahccmlnbdekaa
open Go.ChangeShapes Go.WideShapes Go.ChangeAt Go.RowKit
set_option linter.unusedVariables false
set_option linter.unusedSimpArgs false
set_option maxRecDepth 100000

theorem ownU_made (w : World) : OwnU w.heap.size (w.alloc (.cells #[] 40)) (.slice (some ⟨w.heap.size, 0, none⟩) 0 0) [] := ⟨[], rfl, World.ownsRow_made w #[] 0 (Nat.le_refl _) (by unfold maxLen; omega) (by simp), by simp⟩
set_option maxHeartbeats 4000000 in
theorem rbeginU_any (l : List Upl) (v : Value) (id : Nat) (key : ByteArray) (w : World) (r : List Upl) (e : Nat) (h : BeginC l id key r e) (hs : smL l) (hk : key.size ≤ 1000) (ht : Upls w w.heap.size v l) :
    Calls Try.prog 24 #[v, .int .u64 (id : Nat), .string key] w fun x w' => ∃ u, x = .returned (.tuple #[u, .int .i64 (e : Nat)]) ∧ Upls w' w'.heap.size u r ∧ Q w w' := by
  have HT := Lib.hid ht
  have hl := hs.1
  have CK : ∀ R, Chk (okUps l) R → Calls Try.prog 20 #[v] w fun e w' => e = .returned (.bool R) ∧ Q w w' := fun R hR => rmayL_any l v w R hR hs ht
  have N0 := fun d => number_any id d
  have K0 := fun d => rkey_any key d hk
  by_cases hok : okUps l
  · have C := Lib.hid (CK true (.inl ⟨rfl, hok⟩))
    cases hn : mayN id with
    | false =>
      have hno : ¬ (okUps l ∧ mayB id key = true) := fun k => by have := k.2; rw [mayB, hn] at this; simp at this
      have HV : Hid (r = [] ∧ e = 1) := Lib.hid (by
        cases h with
        | arg h => exact ⟨rfl, rfl⟩
        | order h1 h2 _ => exact absurd ⟨h1, h2⟩ hno
        | large h1 h2 _ _ => exact absurd ⟨h1, h2⟩ hno
        | yes h1 h2 _ _ => exact absurd ⟨h1, h2⟩ hno)
      rw [hn] at N0
      have N := Lib.hid N0
      clear CK ht hs h hok hn hno N0 K0
      go_enter Try.func24, Try.ntmps24
      go_wp2_with fail
      refine (C.out).mono ?_
      rintro e w1 ⟨rfl, q1⟩
      go_wp2_with fail
      refine (N.out _).mono ?_
      rintro e w2 ⟨rfl, rfl⟩
      go_wp2
      go_ret2
      exact ⟨_, by rw [HV.out.2]; rfl, by rw [HV.out.1]; exact Upls.nil _ _, q1⟩
    | true =>
      rw [hn] at N0
      have N := Lib.hid N0
      cases hkk : hasO 1 60 ko key with
      | false =>
        have hno : ¬ (okUps l ∧ mayB id key = true) := fun k => by have := k.2; rw [mayB, hn, hkk] at this; simp at this
        have HV : Hid (r = [] ∧ e = 1) := Lib.hid (by
          cases h with
          | arg h => exact ⟨rfl, rfl⟩
          | order h1 h2 _ => exact absurd ⟨h1, h2⟩ hno
          | large h1 h2 _ _ => exact absurd ⟨h1, h2⟩ hno
          | yes h1 h2 _ _ => exact absurd ⟨h1, h2⟩ hno)
        rw [hkk] at K0
        have K := Lib.hid K0
        clear CK ht hs h hok hn hkk hno N0 K0
        go_enter Try.func24, Try.ntmps24
        go_wp2_with fail
        refine (C.out).mono ?_
        rintro e w1 ⟨rfl, q1⟩
        go_wp2_with fail
        refine (N.out _).mono ?_
        rintro e w2 ⟨rfl, rfl⟩
        go_wp2_with fail
        refine (K.out _).mono ?_
        rintro e w3 ⟨rfl, rfl⟩
        go_wp2
        go_ret2
        exact ⟨_, by rw [HV.out.2]; rfl, by rw [HV.out.1]; exact Upls.nil _ _, q1⟩
      | true =>
        have hb : mayB id key = true := by rw [mayB, hn, hkk]; rfl
        rw [hkk] at K0
        have K := Lib.hid K0
        have hid1 := mayN_iff.1 hn
        have HP : Hid (∀ b d, OwnU1 b d ((⟨id, key, []⟩ : Upl), .slice none 0 0)) := Lib.hid fun b d => ⟨⟨by show id < _; omega, by unfold maxLen; show key.size ≤ _; omega, by simp⟩, by simp, by simp, .inr (OwnP.nil _ _)⟩
        have HH := Lib.hid h
        have HO := Lib.hid hok
        have HB := Lib.hid hb
        obtain ⟨A, c, rfl⟩ := ht.form
        clear CK ht hs h hok hn hkk hb N0 K0
        go_enter Try.func24, Try.ntmps24
        go_wp2_with fail
        refine (C.out).mono ?_
        rintro e w1 ⟨rfl, q1⟩
        go_wp2_with fail
        refine (N.out _).mono ?_
        rintro e w2 ⟨rfl, rfl⟩
        go_wp2_with fail
        refine (K.out _).mono ?_
        rintro e w3 ⟨rfl, rfl⟩
        go_wp2_with fail
        go_loopw [8] (fun I wr => ∃ i : Nat, i ≤ l.length ∧ I = .int .i64 i ∧ Q w wr ∧ Hid (∀ j (hj : j < i) (hl : j < l.length), l[j].id < id)) (fun I _ => l.length - (intOf I).toNat)
        case atStart => exact ⟨0, Nat.zero_le _, rfl, q1, Lib.hid (fun j h => by omega)⟩
        case round =>
          obtain ⟨i, hil, rfl, q, HK⟩ := hrel
          clear q1
          by_cases hlt : i < l.length
          · obtain ⟨a, c', hv, ha, A2, c2, -, hat⟩ := HT.out.pick i hlt
            injection hv with e1 e2 e3
            subst e1 e3
            obtain ⟨d0, -⟩ := hat _ q
            have hilt : (i : Int) < (l.length : Int) := by omega
            by_cases hge : id ≤ l[i].id
            · have HV : Hid (r = [] ∧ e = 9) := Lib.hid (by
                have := HH.out
                cases this with
                | arg h => exact absurd ⟨HO.out, HB.out⟩ h
                | order _ _ h => exact ⟨rfl, rfl⟩
                | large _ _ h _ => have := h _ (List.getElem_mem hlt); omega
                | yes _ _ h _ => have := h _ (List.getElem_mem hlt); omega)
              obtain ⟨x, hx⟩ : ∃ x, x = l[i].id := ⟨_, rfl⟩
              rw [← hx] at d0 hge
              have hge' : (id : Int) ≤ (x : Int) := by omega
              clear hx hat e2 hge
              go_wp2
              go_ret2
              exact ⟨_, by rw [HV.out.2]; rfl, by rw [HV.out.1]; exact Upls.nil _ _, q⟩
            · have HK2 : Hid (∀ j (hj : j < i + 1) (hl : j < l.length), l[j].id < id) := Lib.hid (fun j hj hl => by
                by_cases e : j = i
                · subst e; omega
                · exact HK.out j (by omega) hl)
              obtain ⟨x, hx⟩ : ∃ x, x = l[i].id := ⟨_, rfl⟩
              rw [← hx] at d0 hge
              have hge' : ¬ (id : Int) ≤ (x : Int) := by omega
              clear hx hat e2 hge
              go_wp2
              go_roundw
              case rel => exact ⟨i + 1, by omega, by go_num, q, HK2⟩
              case measure => simp [intOf]; omega
          · have hilt : ¬ (i : Int) < (l.length : Int) := by omega
            have HA : Hid (∀ x ∈ l, x.id < id) := Lib.hid (fun x hx => by
              obtain ⟨j, hj, rfl⟩ := List.getElem_of_mem hx
              exact HK.out j (by omega) hj)
            by_cases h10 : l.length = 10
            · have h10' : (10 : Int) ≤ (l.length : Int) := by omega
              have HV : Hid (r = [] ∧ e = 6) := Lib.hid (by
                have := HH.out
                cases this with
                | arg h => exact absurd ⟨HO.out, HB.out⟩ h
                | order _ _ h => obtain ⟨x, hx, hi⟩ := h; have := HA.out x hx; omega
                | large _ _ h _ => exact ⟨rfl, rfl⟩
                | yes _ _ _ h => omega)
              clear h10 hil
              go_wp2
              go_ret2
              exact ⟨_, by rw [HV.out.2]; rfl, by rw [HV.out.1]; exact Upls.nil _ _, q⟩
            · have h10' : ¬ (10 : Int) ≤ (l.length : Int) := by have := HO.out.1; omega
              have HV : Hid (r = l ++ [⟨id, key, []⟩] ∧ e = 0) := Lib.hid (by
                have := HH.out
                cases this with
                | arg h => exact absurd ⟨HO.out, HB.out⟩ h
                | order _ _ h => obtain ⟨x, hx, hi⟩ := h; have := HA.out x hx; omega
                | large _ _ _ h => omega
                | yes => exact ⟨rfl, rfl⟩)
              have o0 := ownU_made wr
              have t0 : Upls (wr.alloc (.cells #[] 40)) wr.heap.size (.slice A l.length c) l := (HT.out.on q).below ((Below.refl _ wr).alloc (Nat.le_refl _) _)
              clear h10 hil
              go_wp2_with (first | (at_builtin; refine wpList_append_upl _ rfl _ _ 22 Try.underlying22 rfl wr.heap.size _ [] l rfl rfl o0 t0 ?hb ?hl ?_; (case hb => simp); (case hl => (try simp); omega); intro v4 w4 o4 g4; have b4 : wr.heap.size ≤ w4.heap.size := (by have := g4.size; simp at this; omega); have o5 := o4.on ((Q.refl w4).alloc (.cells #[.int .u64 (id : Nat), .string key, .slice none 0 0] 40)) b4) | (at_builtin; refine wpList_snoc_upl _ rfl _ _ 22 Try.underlying22 rfl wr.heap.size w4.heap.size _ ([] ++ l) (⟨id, key, []⟩, .slice none 0 0) rfl rfl (cells_oneupl w4 (⟨id, key, []⟩, .slice none 0 0) 40) o5 (HP.out _ _) ?hb ?hl ?_; (case hb => simp; omega); (case hl => (try simp); omega); intro v6 w6 o6 g6; have q6 : Q wr w6 := Below.trans (Below.trans ((Below.refl _ wr).alloc (Nat.le_refl _) _) g4) (Below.trans ((Below.refl _ w4).alloc b4 _) g6)))
              go_ret2
              exact ⟨_, by rw [HV.out.2]; rfl, by rw [HV.out.1]; exact o6.read q6.size, q.trans q6⟩
  · have C := Lib.hid (CK false (.inr ⟨rfl, hok⟩))
    have hno : ¬ (okUps l ∧ mayB id key = true) := fun k => hok k.1
    have HV : Hid (r = [] ∧ e = 1) := Lib.hid (by
      cases h with
      | arg h => exact ⟨rfl, rfl⟩
      | order h1 h2 _ => exact absurd ⟨h1, h2⟩ hno
      | large h1 h2 _ _ => exact absurd ⟨h1, h2⟩ hno
      | yes h1 h2 _ _ => exact absurd ⟨h1, h2⟩ hno)
    clear CK ht hs h hok hno N0 K0
    go_enter Try.func24, Try.ntmps24
    go_wp2_with fail
    refine (C.out).mono ?_
    rintro e w1 ⟨rfl, q1⟩
    go_wp2
    go_ret2
    exact ⟨_, by rw [HV.out.2]; rfl, by rw [HV.out.1]; exact Upls.nil _ _, q1⟩
end Go.Proofs.Ytlahccmlnbdekaa
