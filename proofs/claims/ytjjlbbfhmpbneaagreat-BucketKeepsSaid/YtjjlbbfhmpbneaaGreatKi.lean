/-
  Contracts of the document's Same and of the program's. The order of texts; which indices may be.
-/
import Derived.Test.YtjjlbbfhmpbneaaGreatKh
namespace Go.Proofs.YtjjlbbfhmpbneaaGreat
set_option maxRecDepth 100000
open Go.ChangeShapes Go.WideShapes Go.ChangeAt Go.RowKit
set_option linter.unusedVariables false
set_option linter.unusedSimpArgs false
theorem D.step {a b c : World} (h : D a b) (k : D b c) : D a c := by
  obtain ⟨m, rfl⟩ := h
  obtain ⟨n, rfl⟩ := k
  exact ⟨m + n, World.drewN_drewN _ _ _⟩
theorem quiet_dm {P : Program} {f : FuncId} {args : Array Value} {w : World} {m n : Nat} {v : Value}
    (h : Calls P f args (w.drewN (m + n)) fun e w' => e = .returned v ∧ D (w.drewN (m + n)) w') : Calls P f args (w.drewN (m + n)) fun e w'' => e = .returned v ∧ ∃ k, w'' = w.drewN (m + k) :=
  h.mono fun _ _ ⟨he, k, hk⟩ => ⟨he, n + k, by rw [hk, World.drewN_drewN, Nat.add_assoc]⟩
theorem ent_ext {x y : Ent} (h : x.key = y.key) (k : x.L = y.L) : x = y := by
  cases x; cases y; simp only at h k; rw [h, k]
theorem entL_ne {a b : List Ent} {i : Nat} (h : i < a.length) (k : i < b.length) (n : a[i] ≠ b[i]) : a ≠ b := by
  rintro rfl; exact n rfl
/-- Same's answer. -/
def sameEP (a b : List Ent) (R : Bool) : Prop := (R = true ∧ a = b) ∨ (R = false ∧ a ≠ b)
theorem sameEP_yes {a b : List Ent} {A : Bool} (h : sameEP a b A) (e : a = b) : A = true := by
  rcases h with ⟨h, -⟩ | ⟨-, h⟩
  · exact h
  · exact absurd e h
theorem sameEP_no {a b : List Ent} {A : Bool} (h : sameEP a b A) (e : a ≠ b) : A = false := by
  rcases h with ⟨-, h⟩ | ⟨h, -⟩
  · exact absurd h e
  · exact h
theorem sameP_ex (a b : List Ver) : ∃ R, sameP a b R := by
  by_cases h : a = b
  · exact ⟨true, .inl ⟨rfl, h⟩⟩
  · exact ⟨false, .inr ⟨rfl, h⟩⟩
set_option maxHeartbeats 4000000 in
theorem rsameE_any (a b : List Ent) (va vb : Value) (w : World) (R : Bool) (hR : sameEP a b R) (sa : Small a) (sb : Small b) (ha : Ents w w.heap.size va a) (hb : Ents w w.heap.size vb b) :
    Calls Tryz.prog 42 #[va, vb] w fun e w' => e = .returned (.bool R) ∧ D w w' := by
  have HA := Lib.hid ha
  have HB := Lib.hid hb
  have HR := Lib.hid hR
  have SA := Lib.hid sa
  have SB := Lib.hid sb
  have hl := sa.1
  have hlb := sb.1
  obtain ⟨A, c, rfl⟩ := ha.form
  obtain ⟨B, c', rfl⟩ := hb.form
  clear ha hb hR sa sb
  by_cases he : a.length = b.length
  · have hen : ((a.length : Int) != (b.length : Int)) = false := by simp [he]
    have HE := Lib.hid he
    clear he
    go_enter Tryz.func42, Tryz.ntmps42
    go_wp2_with fail
    go_loopw [5] (fun I wr => ∃ i : Nat, i ≤ a.length ∧ I = .int .i64 i ∧ D w wr ∧ Hid (a.take i = b.take i)) (fun I _ => a.length - (intOf I).toNat)
    case atStart => exact ⟨0, Nat.zero_le _, rfl, D.refl _, Lib.hid (by simp)⟩
    case round =>
      obtain ⟨i, hil, rfl, d, HT⟩ := hrel
      by_cases hlt : i < a.length
      · have hlb2 : i < b.length := by rw [← HE.out]; exact hlt
        obtain ⟨p, c1, hv1, hp, A1, k1, hv, hat⟩ := HA.out.pick i hlt
        obtain ⟨q, c2, hv2, hq, A2, k2, hu, hbt⟩ := HB.out.pick i hlb2
        injection hv1 with e1 e2 e3
        injection hv2 with f1 f2 f3
        subst e1 e3 f1 f3
        obtain ⟨m, rfl⟩ := d
        obtain ⟨d0, d1⟩ := hat w (Q.refl w)
        obtain ⟨d2, d3⟩ := hbt w (Q.refl w)
        have hi1 : (i : Int) < (a.length : Int) := by omega
        have hi2 : (i : Int) < (b.length : Int) := by omega
        by_cases hk : a[i].key = b[i].key
        · obtain ⟨S, hS⟩ := sameP_ex a[i].L b[i].L
          have SM : Hid (∀ n, Calls Tryz.prog 91 #[.slice A1 a[i].L.length k1, .slice A2 b[i].L.length k2] (w.drewN (m + n)) fun e w'' => e = .returned (.bool S) ∧ ∃ k, w'' = w.drewN (m + k)) := Lib.hid (fun n =>
            quiet_dm (rsame_any _ _ _ _ _ S hS (SA.out.2 _ (List.getElem_mem hlt)).2.1 (SB.out.2 _ (List.getElem_mem hlb2)).2.1 (hv.on ((Q.refl w).drewN (m + n))) (hu.on ((Q.refl w).drewN (m + n)))))
          have hT2 : S = true → a.take (i + 1) = b.take (i + 1) := fun e => by
            have k := sameP_yes (A := S) hS
            rcases hS with ⟨-, h⟩ | ⟨h, -⟩
            · rw [List.take_succ_eq_append_getElem hlt, List.take_succ_eq_append_getElem hlb2, HT.out, ent_ext hk h]
            · rw [h] at e; simp at e
          have hN2 : S = false → R = false := fun e => sameEP_no HR.out (entL_ne hlt hlb2 fun h => by
            rcases hS with ⟨h', -⟩ | ⟨-, h'⟩
            · rw [h'] at e; simp at e
            · exact h' (by rw [h]))
          have h1 := key_eq b[i].key
          rw [hk] at d0
          obtain ⟨x, hx⟩ : ∃ x, x = b[i].key := ⟨_, rfl⟩
          obtain ⟨L1, hL1⟩ : ∃ L, L = a[i].L.length := ⟨_, rfl⟩
          obtain ⟨L2, hL2⟩ : ∃ L, L = b[i].L.length := ⟨_, rfl⟩
          rw [← hx] at d0 d2 h1
          rw [← hL1] at d1 SM
          rw [← hL2] at d3 SM
          clear hat hbt hv hu hk hx hL1 hL2 hS
          cases S with
          | true =>
            have HT2 := Lib.hid (hT2 rfl)
            clear hT2 hN2
            go_wp2_with fail
            go_quiet ((go_at_call 91; exact SM.out _))
            go_wp2
            go_roundw
            case rel => exact ⟨i + 1, by omega, by go_num, ⟨m + nq, by first | rfl | rw [World.drewN_drewN]⟩, HT2⟩
            case measure => simp [intOf]; omega
          | false =>
            have HV := Lib.hid (hN2 rfl)
            clear hT2 hN2
            go_wp2_with fail
            go_quiet ((go_at_call 91; exact SM.out _))
            go_wp2
            go_ret
            exact ⟨ret_bool (by rw [HV.out]), ⟨m + nq, by first | rfl | rw [World.drewN_drewN]⟩⟩
        · have HV := Lib.hid (sameEP_no HR.out (entL_ne hlt hlb2 fun h => hk (by rw [h])))
          have h1 := key_ne hk
          have h2 : ¬ a[i].key.toList = b[i].key.toList := by simpa using h1
          obtain ⟨x, hx⟩ : ∃ x, x = a[i].key := ⟨_, rfl⟩
          obtain ⟨y, hy⟩ : ∃ x, x = b[i].key := ⟨_, rfl⟩
          rw [← hx] at d0 h1 h2
          rw [← hy] at d2 h1 h2
          clear hat hbt hv hu hk hx hy d1 d3
          go_wp2_with fail
          go_quiet (fail)
          go_wp2
          go_ret
          exact ⟨ret_bool (by rw [HV.out]), ⟨m + nq, by first | rfl | rw [World.drewN_drewN]⟩⟩
      · have HV := Lib.hid (sameEP_yes HR.out (by have := HT.out; rw [List.take_of_length_le (by omega), List.take_of_length_le (by have := HE.out; omega)] at this; exact this))
        go_wp2
        go_ret
        exact ⟨ret_bool (by rw [HV.out]), d⟩
  · have HV := Lib.hid (sameEP_no HR.out (fun e => he (congrArg List.length e)))
    have hen : ((a.length : Int) != (b.length : Int)) = true := by
      have : ¬ (a.length : Int) = (b.length : Int) := by omega
      simpa using this
    clear he
    go_enter Tryz.func42, Tryz.ntmps42
    go_wp2
    go_ret
    exact ⟨ret_bool (by rw [HV.out]), D.refl _⟩
end Go.Proofs.YtjjlbbfhmpbneaaGreat

namespace Go.Proofs.YtjjlbbfhmpbneaaGreat
set_option maxRecDepth 100000
open Go.ChangeShapes Go.WideShapes Go.ChangeAt Go.RowKit
set_option linter.unusedVariables false
set_option linter.unusedSimpArgs false
theorem less_irrefl (a : List UInt8) : Op.bytesLess a a = false := by
  induction a with
  | nil => rfl
  | cons x r ih => simp [Op.bytesLess, ih]
theorem less_leq : ∀ a b : List UInt8, (Op.bytesLess a b || a == b) = !(Op.bytesLess b a) := by
  intro a
  induction a with
  | nil => intro b; cases b <;> simp [Op.bytesLess]
  | cons x r ih =>
    intro b
    cases b with
    | nil => simp [Op.bytesLess]
    | cons y m =>
      have h := ih m
      by_cases e : x = y
      · subst e
        have nl : ¬ x < x := by simp
        simp only [Op.bytesLess, nl, decide_false, Bool.false_or, beq_self_eq_true, Bool.true_and]
        rw [← h]
        simp
      · have e' : ¬ y = x := fun q => e q.symm
        by_cases lt : x < y
        · have ngt : ¬ y < x := by
            rw [UInt8.lt_iff_toNat_lt] at lt ⊢; omega
          simp [Op.bytesLess, lt, ngt, e, e']
        · have gt : y < x := by
            rw [UInt8.lt_iff_toNat_lt] at lt ⊢
            have : ¬ x.toNat = y.toNat := fun q => e (UInt8.toNat_inj.1 q)
            omega
          simp [Op.bytesLess, lt, gt, e, e']
theorem less_trans : ∀ a b c : List UInt8, Op.bytesLess a b = true → Op.bytesLess b c = true → Op.bytesLess a c = true := by
  intro a
  induction a with
  | nil => intro b c h k; cases c with
    | nil => simp [Op.bytesLess] at k
    | cons _ _ => rfl
  | cons x r ih =>
    intro b c h k
    cases b with
    | nil => simp [Op.bytesLess] at h
    | cons y m =>
      cases c with
      | nil => simp [Op.bytesLess] at k
      | cons z s =>
        simp only [Op.bytesLess, Bool.or_eq_true, Bool.and_eq_true, decide_eq_true_eq, beq_iff_eq] at h k ⊢
        rcases h with h | ⟨rfl, h⟩
        · rcases k with k | ⟨rfl, k⟩
          · left; rw [UInt8.lt_iff_toNat_lt] at *; omega
          · exact .inl h
        · rcases k with k | ⟨rfl, k⟩
          · exact .inl k
          · exact .inr ⟨rfl, ih m s h k⟩
theorem ltB_irrefl (a : ByteArray) : ltB a a = false := less_irrefl _
theorem ltB_trans {a b c : ByteArray} (h : ltB a b = true) (k : ltB b c = true) : ltB a c = true := less_trans _ _ _ h k
theorem ltB_asymm {a b : ByteArray} (h : ltB a b = true) : ltB b a = false := by
  cases k : ltB b a with
  | false => rfl
  | true => have := ltB_trans h k; rw [ltB_irrefl] at this; exact this.symm
theorem ltB_leq (a b : ByteArray) : (ltB a b || a.toList == b.toList) = !(ltB b a) := less_leq _ _
theorem ltB_total {a b : ByteArray} (h : a ≠ b) (k : ltB a b = false) : ltB b a = true := by
  have := ltB_leq a b
  rw [k, key_ne h] at this
  simpa using this.symm
theorem ltB_ne {a b : ByteArray} (h : ltB a b = true) : a ≠ b := fun e => by rw [e, ltB_irrefl] at h; simp at h
/-- Entry i may stand where it stands. -/
def stepI (l : List Ent) (i : Nat) : Prop := ∀ h : i < l.length, hasO 1 60 ko l[i].key = true ∧ 0 < l[i].L.length ∧ okP l[i].L ∧ ∀ j (hj : j + 1 = i), ltB (l[j]'(by omega)).key l[i].key = true
/-- An index that may be. -/
def okI (l : List Ent) : Prop := l.length ≤ 60 ∧ ∀ i, stepI l i
def chkI (l : List Ent) (R : Bool) : Prop := (R = true ∧ okI l) ∨ (R = false ∧ ¬ okI l)
theorem chkI_ex (l : List Ent) : ∃ R, chkI l R := by
  by_cases h : okI l
  · exact ⟨true, .inl ⟨rfl, h⟩⟩
  · exact ⟨false, .inr ⟨rfl, h⟩⟩
theorem chkI_no {l : List Ent} {R : Bool} (h : chkI l R) (k : ¬ okI l) : R = false := by
  rcases h with ⟨-, h⟩ | ⟨h, -⟩
  · exact absurd h k
  · exact h
theorem chkI_yes {l : List Ent} {R : Bool} (h : chkI l R) (k : okI l) : R = true := by
  rcases h with ⟨h, -⟩ | ⟨-, h⟩
  · exact h
  · exact absurd k h
theorem chkI_end {l : List Ent} {R : Bool} (h : chkI l R) (k : ∀ j, j < l.length → stepI l j) : R = decide (l.length ≤ 60) := by
  have hall : ∀ i, stepI l i := fun i => by
    by_cases hi : i < l.length
    · exact k i hi
    · exact fun h => absurd h hi
  by_cases h60 : l.length ≤ 60
  · rw [chkI_yes h ⟨h60, hall⟩]; simp [h60]
  · rw [chkI_no h (fun o => h60 o.1)]; simp [h60]
end Go.Proofs.YtjjlbbfhmpbneaaGreat

