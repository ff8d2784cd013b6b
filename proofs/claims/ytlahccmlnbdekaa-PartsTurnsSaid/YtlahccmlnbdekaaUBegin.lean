/-
  Contracts of both Begin.
-/
import Derived.Test.YtlahccmlnbdekaaUFind2
namespace Go.Proofs.Ytlahccmlnbdekaa
open Go.ChangeShapes Go.WideShapes Go.ChangeAt Go.RowKit
set_option linter.unusedVariables false
set_option linter.unusedSimpArgs false
set_option maxRecDepth 100000

/-- What Begin comes to. -/
inductive BeginC (l : List Upl) (id : Nat) (key : ByteArray) : List Upl → Nat → Prop
  | arg : ¬ (okUps l ∧ mayB id key = true) → BeginC l id key [] 1
  | order : okUps l → mayB id key = true → (∃ x ∈ l, id ≤ x.id) → BeginC l id key [] 9
  | large : okUps l → mayB id key = true → (∀ x ∈ l, x.id < id) → l.length = 10 → BeginC l id key [] 6
  | yes : okUps l → mayB id key = true → (∀ x ∈ l, x.id < id) → l.length < 10 → BeginC l id key (l ++ [⟨id, key, []⟩]) 0
theorem beginC_ex (l : List Upl) (id : Nat) (key : ByteArray) : ∃ r e, BeginC l id key r e := by
  by_cases h : okUps l ∧ mayB id key = true
  · by_cases k : ∃ x ∈ l, id ≤ x.id
    · exact ⟨_, _, .order h.1 h.2 k⟩
    · have k' : ∀ x ∈ l, x.id < id := fun x hx => by
        rcases Nat.lt_or_ge x.id id with h | h
        · exact h
        · exact absurd ⟨x, hx, h⟩ k
      by_cases m : l.length = 10
      · exact ⟨_, _, .large h.1 h.2 k' m⟩
      · exact ⟨_, _, .yes h.1 h.2 k' (by have := h.1.1; omega)⟩
  · exact ⟨_, _, .arg h⟩
theorem okUps_lt {l : List Upl} (h : okUps l) (i j : Nat) (hij : i < j) (hj : j < l.length) : (l[i]'(by omega)).id < l[j].id := by
  obtain ⟨d, rfl⟩ : ∃ d, j = i + d + 1 := ⟨j - i - 1, by omega⟩
  induction d with
  | zero => exact (h.2 (i + 1) hj).2 i rfl
  | succ d ih => exact Nat.lt_trans (ih (by omega) (by omega)) ((h.2 (i + (d + 1) + 1) hj).2 (i + d + 1) rfl)
/-- The last ID is the greatest. -/
theorem last_top {l : List Upl} (h : okUps l) {j : Nat} (hj : j + 1 = l.length) (id : Nat) : (∃ x ∈ l, id ≤ x.id) ↔ id ≤ (l[j]'(by omega)).id := by
  refine ⟨fun ⟨x, hx, hi⟩ => ?_, fun hi => ⟨_, List.getElem_mem _, hi⟩⟩
  obtain ⟨k, hk, rfl⟩ := List.getElem_of_mem hx
  by_cases e : k = j
  · subst e; exact hi
  · have := okUps_lt h k j (by omega) (by omega); omega
theorem mayB_no {id : Nat} {key : ByteArray} (h : ¬ mayB id key = true) : mayB id key = false := by simpa using h
set_option maxHeartbeats 4000000 in
theorem beginU_any (l : List Upl) (v : Value) (id : Nat) (key : ByteArray) (w : World) (r : List Upl) (e : Nat) (h : BeginC l id key r e) (hs : smL l) (hk : key.size ≤ 1000) (ht : Upls w w.heap.size v l) :
    Calls Try.prog 23 #[v, .int .u64 (id : Nat), .string key] w fun x w' => ∃ u, x = .returned (.tuple #[u, .int .i64 (e : Nat)]) ∧ Upls w' w'.heap.size u r ∧ Q w w' := by
  have HT := Lib.hid ht
  have hl := hs.1
  have CK : ∀ R, Chk (okUps l) R → Calls Try.prog 19 #[v] w fun e w' => e = .returned (.int .i64 (chkE R)) ∧ Q w w' := fun R hR => checkU_any l v w R hR hs ht
  have MB := fun d => mayBegin_any id key d hk
  have AA : Hid (∀ d, Q w d → Calls Try.prog 34 #[v] d fun e w' => ∃ v', e = .returned v' ∧ OwnU d.heap.size w' v' l ∧ Q d w') := Lib.hid fun d q => allApart_any l v d hs (ht.on q)
  by_cases hok : okUps l
  · have C := Lib.hid (CK true (.inl ⟨rfl, hok⟩))
    by_cases hb : mayB id key = true
    · rw [hb] at MB
      have M := Lib.hid MB
      have hid' := hb
      rw [mayB, Bool.and_eq_true, mayN_iff] at hid'
      have hid1 := hid'.1
      have HP : Hid (∀ b d, OwnU1 b d ((⟨id, key, []⟩ : Upl), .slice none 0 0)) := Lib.hid fun b d => ⟨⟨by show id < _; omega, by unfold maxLen; show key.size ≤ _; omega, by simp⟩, by simp, by simp, .inr (OwnP.nil _ _)⟩
      obtain ⟨A, c, rfl⟩ := ht.form
      have l10 := hok.1
      by_cases h0 : l.length = 0
      · have hn0 : ¬ (0 : Int) < (l.length : Int) := by omega
        have hn1 : ¬ (l.length : Int) = 10 := by omega
        have HV : Hid (r = l ++ [⟨id, key, []⟩] ∧ e = 0) := Lib.hid (by
          have e0 : l = [] := List.length_eq_zero_iff.1 h0
          cases h with
          | arg h => exact absurd ⟨hok, hb⟩ h
          | order _ _ h => obtain ⟨x, hx, -⟩ := h; rw [e0] at hx; simp at hx
          | large _ _ _ h => omega
          | yes => exact ⟨rfl, rfl⟩)
        clear CK ht hs h hok hb MB hid' h0
        go_enter Try.func23, Try.ntmps23
        go_wp2_with fail
        refine (C.out).mono ?_
        rintro e w1 ⟨rfl, q1⟩
        go_wp2_with fail
        refine (M.out _).mono ?_
        rintro e w2 ⟨rfl, q2⟩
        go_wp2_with fail
        refine (AA.out _ (q1.trans q2)).mono ?_
        rintro e w3 ⟨v3, rfl, o3, q3⟩
        have hb3 := q3.size
        have o4 := o3.on ((Q.refl w3).alloc (.cells #[.int .u64 (id : Nat), .string key, .slice none 0 0] 40)) hb3
        go_wp2_with ((at_builtin; refine wpList_snoc_upl _ rfl _ _ 22 Try.underlying22 rfl w2.heap.size w3.heap.size _ l (⟨id, key, []⟩, .slice none 0 0) rfl rfl (cells_oneupl w3 (⟨id, key, []⟩, .slice none 0 0) 40) o4 (HP.out _ _) ?hb ?hl ?_; (case hb => simp; omega); (case hl => omega); intro v5 w5 o5 g5; have q5 : Q w w5 := (q1.trans q2).trans (Below.trans (q3.alloc _) g5)))
        go_ret2
        exact ⟨_, by rw [HV.out.2]; rfl, by rw [HV.out.1]; exact o5.read (by have := q5.size; have h6 := g5.size; simp at h6; omega), q5⟩
      · obtain ⟨j, hj⟩ : ∃ j, j + 1 = l.length := ⟨l.length - 1, by omega⟩
        obtain ⟨a, c', hv, ha, A2, c2, -, hat⟩ := HT.out.pick j (by omega)
        injection hv with e1 e2 e3
        subst e1 e3
        have hT := last_top hok hj id
        have hn0 : (0 : Int) < (l.length : Int) := by omega
        have hj1 : (l.length : Int) - 1 = (j : Int) := by omega
        have wj : IntKind.i64.wrap (j : Int) = (j : Int) := by rw [IntKind.wrap_i64]; omega
        have hj2 : (j : Int) < (l.length : Int) := by omega
        obtain ⟨y, hy⟩ : ∃ y, y = (l[j]'(by omega)).id := ⟨_, rfl⟩
        have HAT : Hid (∀ d, Q w d → d.cell? (a.add (j * 3)) = some (.int .u64 (y : Nat))) := Lib.hid fun d q => by rw [hy]; exact (hat d q).1
        rw [← hy] at hT
        by_cases hle : id ≤ y
        · have hle' : (id : Int) ≤ (y : Int) := by omega
          have HV : Hid (r = [] ∧ e = 9) := Lib.hid (by
            cases h with
            | arg h => exact absurd ⟨hok, hb⟩ h
            | order _ _ h => exact ⟨rfl, rfl⟩
            | large _ _ h _ => obtain ⟨x, hx, hi⟩ := hT.2 hle; have := h x hx; omega
            | yes _ _ h _ => obtain ⟨x, hx, hi⟩ := hT.2 hle; have := h x hx; omega)
          clear CK ht hs h hok hb MB hid' h0 hat hT hj hy e2 hid1
          go_enter Try.func23, Try.ntmps23
          go_wp2_with fail
          refine (C.out).mono ?_
          rintro e w1 ⟨rfl, q1⟩
          go_wp2_with fail
          refine (M.out _).mono ?_
          rintro e w2 ⟨rfl, q2⟩
          have d0 := HAT.out _ (q1.trans q2)
          go_wp2
          go_ret2
          exact ⟨_, by rw [HV.out.2]; rfl, by rw [HV.out.1]; exact Upls.nil _ _, q1.trans q2⟩
        · have hle' : ¬ (id : Int) ≤ (y : Int) := by omega
          by_cases h10 : l.length = 10
          · have hn1 : (l.length : Int) = 10 := by omega
            have HV : Hid (r = [] ∧ e = 6) := Lib.hid (by
              cases h with
              | arg h => exact absurd ⟨hok, hb⟩ h
              | order _ _ h => exact absurd (hT.1 h) hle
              | large _ _ h _ => exact ⟨rfl, rfl⟩
              | yes _ _ _ h => omega)
            have HLL : Hid (((l.length : Int) == 10) = true) := Lib.hid (by simp [hn1])
            have hb10 := HLL.out
            clear CK ht hs h hok hb MB hid' h0 hat hT hj hy e2 hid1 hn1 HLL h10
            go_enter Try.func23, Try.ntmps23
            go_wp2_with fail
            refine (C.out).mono ?_
            rintro e w1 ⟨rfl, q1⟩
            go_wp2_with fail
            refine (M.out _).mono ?_
            rintro e w2 ⟨rfl, q2⟩
            have d0 := HAT.out _ (q1.trans q2)
            go_wp2
            go_ret2
            exact ⟨_, by rw [HV.out.2]; rfl, by rw [HV.out.1]; exact Upls.nil _ _, q1.trans q2⟩
          · have hn1 : ¬ (l.length : Int) = 10 := by omega
            have HV : Hid (r = l ++ [⟨id, key, []⟩] ∧ e = 0) := Lib.hid (by
              cases h with
              | arg h => exact absurd ⟨hok, hb⟩ h
              | order _ _ h => exact absurd (hT.1 h) hle
              | large _ _ _ h => omega
              | yes => exact ⟨rfl, rfl⟩)
            clear CK ht hs h hok hb MB hid' h0 hat hT hj hy e2 hid1
            go_enter Try.func23, Try.ntmps23
            go_wp2_with fail
            refine (C.out).mono ?_
            rintro e w1 ⟨rfl, q1⟩
            go_wp2_with fail
            refine (M.out _).mono ?_
            rintro e w2 ⟨rfl, q2⟩
            have d0 := HAT.out _ (q1.trans q2)
            go_wp2_with fail
            refine (AA.out _ (q1.trans q2)).mono ?_
            rintro e w3 ⟨v3, rfl, o3, q3⟩
            have hb3 := q3.size
            have o4 := o3.on ((Q.refl w3).alloc (.cells #[.int .u64 (id : Nat), .string key, .slice none 0 0] 40)) hb3
            go_wp2_with ((at_builtin; refine wpList_snoc_upl _ rfl _ _ 22 Try.underlying22 rfl w2.heap.size w3.heap.size _ l (⟨id, key, []⟩, .slice none 0 0) rfl rfl (cells_oneupl w3 (⟨id, key, []⟩, .slice none 0 0) 40) o4 (HP.out _ _) ?hb ?hl ?_; (case hb => simp; omega); (case hl => omega); intro v5 w5 o5 g5; have q5 : Q w w5 := (q1.trans q2).trans (Below.trans (q3.alloc _) g5)))
            go_ret2
            exact ⟨_, by rw [HV.out.2]; rfl, by rw [HV.out.1]; exact o5.read (by have := q5.size; have h6 := g5.size; simp at h6; omega), q5⟩
    · have M : Hid (∀ d, Calls Try.prog 41 #[.int .u64 (id : Nat), .string key] d fun e w' => e = .returned (.bool false) ∧ Q d w') := Lib.hid (by rw [mayB_no hb] at MB; exact MB)
      have HV : Hid (r = [] ∧ e = 1) := Lib.hid (by
        cases h with
        | arg h => exact ⟨rfl, rfl⟩
        | order _ h _ => exact absurd h hb
        | large _ h _ _ => exact absurd h hb
        | yes _ h _ _ => exact absurd h hb)
      clear CK ht hs h hok hb MB
      go_enter Try.func23, Try.ntmps23
      go_wp2_with fail
      refine (C.out).mono ?_
      rintro e w1 ⟨rfl, q1⟩
      go_wp2_with fail
      refine (M.out _).mono ?_
      rintro e w2 ⟨rfl, q2⟩
      go_wp2
      go_ret2
      exact ⟨_, by rw [HV.out.2]; rfl, by rw [HV.out.1]; exact Upls.nil _ _, q1.trans q2⟩
  · have C := Lib.hid (CK false (.inr ⟨rfl, hok⟩))
    have HV : Hid (r = [] ∧ e = 1) := Lib.hid (by
      cases h with
      | arg h => exact ⟨rfl, rfl⟩
      | order h _ _ => exact absurd h hok
      | large h _ _ _ => exact absurd h hok
      | yes h _ _ _ => exact absurd h hok)
    clear CK ht hs h hok MB
    go_enter Try.func23, Try.ntmps23
    go_wp2_with fail
    refine (C.out).mono ?_
    rintro e w1 ⟨rfl, q1⟩
    go_wp2
    go_ret2
    exact ⟨_, by rw [HV.out.2]; rfl, by rw [HV.out.1]; exact Upls.nil _ _, q1⟩
end Go.Proofs.Ytlahccmlnbdekaa
