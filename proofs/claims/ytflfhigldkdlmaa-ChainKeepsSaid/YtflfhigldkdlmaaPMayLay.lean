/-
  Contracts of the program's mayLay, Put, Drop and Delete.
-/
import Derived.Test.YtflfhigldkdlmaaPOver
import Derived.Deep.QuietTactic
import Derived.BigQuiet
namespace Go.Proofs.Ytflfhigldkdlmaa
open Go.ChangeShapes Go.WideShapes Go.ChangeAt Go.RowKit
set_option linter.unusedVariables false
set_option linter.unusedSimpArgs false

/-- What a Put comes to: the chain, and the error's number. -/
inductive PutC (l : List Ver) (s : Int) (x : Ver) : List Ver → Nat → Prop
  | chk : ¬ okP l → PutC l s x [] 1
  | state : okP l → (s < 0 ∨ 2 < s) → PutC l s x [] 1
  | may : okP l → 0 ≤ s → s ≤ 2 → mayV x = false → PutC l s x [] 1
  | zero : okP l → s = 1 → mayV x = true → x.id = 0 → PutC l s x [] 1
  | late : okP l → 0 ≤ s → s ≤ 2 → mayV x = true → ¬ (s = 1 ∧ x.id = 0) → (∃ y m, l = y :: m ∧ x.tm < y.tm) → PutC l s x [] 1
  | order : okP l → s = 1 → mayV x = true → x.id ≠ 0 → (∀ y m, l = y :: m → y.tm ≤ x.tm) → l.any (fun y => decide (x.id ≤ y.id)) = true → PutC l s x [] 9
  | large : okP l → s = 1 → mayV x = true → x.id ≠ 0 → (∀ y m, l = y :: m → y.tm ≤ x.tm) → l.any (fun y => decide (x.id ≤ y.id)) = false → 20 ≤ l.length → PutC l s x [] 6
  | on : okP l → s = 1 → mayV x = true → x.id ≠ 0 → (∀ y m, l = y :: m → y.tm ≤ x.tm) → l.any (fun y => decide (x.id ≤ y.id)) = false → l.length < 20 → PutC l s x (x :: l) 0
  | large0 : okP l → (s = 0 ∨ s = 2) → mayV x = true → (∀ y m, l = y :: m → y.tm ≤ x.tm) → 20 ≤ (woV l 0).length → PutC l s x [] 6
  | over : okP l → (s = 0 ∨ s = 2) → mayV x = true → (∀ y m, l = y :: m → y.tm ≤ x.tm) → (woV l 0).length < 20 → PutC l s x (zeroId x :: woV l 0) 0
theorem putC_ex (l : List Ver) (s : Int) (x : Ver) : ∃ L c, PutC l s x L c := by
  by_cases h1 : okP l
  · by_cases h2 : s < 0 ∨ 2 < s
    · exact ⟨_, _, .state h1 h2⟩
    · cases h3 : mayV x with
      | false => exact ⟨_, _, .may h1 (by omega) (by omega) h3⟩
      | true =>
        by_cases h4 : s = 1 ∧ x.id = 0
        · exact ⟨_, _, .zero h1 h4.1 h3 h4.2⟩
        · by_cases h5 : ∃ y m, l = y :: m ∧ x.tm < y.tm
          · exact ⟨_, _, .late h1 (by omega) (by omega) h3 h4 h5⟩
          · have h5' : ∀ y m, l = y :: m → y.tm ≤ x.tm := fun y m e => by
              by_cases h : x.tm < y.tm
              · exact absurd ⟨y, m, e, h⟩ h5
              · omega
            by_cases h6 : s = 1
            · cases h7 : l.any (fun y => decide (x.id ≤ y.id)) with
              | true => exact ⟨_, _, .order h1 h6 h3 (fun e => h4 ⟨h6, e⟩) h5' h7⟩
              | false =>
                by_cases h8 : 20 ≤ l.length
                · exact ⟨_, _, .large h1 h6 h3 (fun e => h4 ⟨h6, e⟩) h5' h7 h8⟩
                · exact ⟨_, _, .on h1 h6 h3 (fun e => h4 ⟨h6, e⟩) h5' h7 (by omega)⟩
            · by_cases h8 : 20 ≤ (woV l 0).length
              · exact ⟨_, _, .large0 h1 (by omega) h3 h5' h8⟩
              · exact ⟨_, _, .over h1 (by omega) h3 h5' (by omega)⟩
  · exact ⟨_, _, .chk h1⟩

set_option maxHeartbeats 2000000 in
theorem mayLay_may (v : Value) (s : Int) (x : Ver) (w : World) (hm : mayV x = false) :
    Calls Try.prog 27 #[v, .int .i64 s, ver x] w fun e w' => e = .returned (.bool false) ∧ Q w w' := by
  have C := Lib.hid (fun b => may_any x b)
  rw [hm, ver] at C
  have qb : Q w (w.alloc (.cells #[.int .u64 (x.id : Nat), .string x.data, .bool x.mark, .int .i64 x.tm] 25)) := (Q.refl w).alloc _
  clear hm
  rw [ver]
  go_enter Try.func27, Try.ntmps27
  go_wp2_with fail
  refine (C.out _).mono ?_
  rintro e w1 ⟨rfl, q1⟩
  go_wp2
  go_ret
  exact ⟨rfl, qb.trans q1⟩
set_option maxHeartbeats 2000000 in
theorem mayLay_zero (v : Value) (x : Ver) (w : World) (hm : mayV x = true) (h0 : x.id = 0) :
    Calls Try.prog 27 #[v, .int .i64 1, ver x] w fun e w' => e = .returned (.bool false) ∧ Q w w' := by
  have C := Lib.hid (fun b => may_any x b)
  rw [hm, ver] at C
  have qb : Q w (w.alloc (.cells #[.int .u64 (x.id : Nat), .string x.data, .bool x.mark, .int .i64 x.tm] 25)) := (Q.refl w).alloc _
  have h0' : ((x.id : Int) == 0) = true := by simp [h0]
  clear hm h0
  rw [ver]
  go_enter Try.func27, Try.ntmps27
  go_wp2_with fail
  refine (C.out _).mono ?_
  rintro e w1 ⟨rfl, q1⟩
  obtain ⟨b0, b1, b2, b3⟩ := box_of q1
  go_wp2
  go_ret
  exact ⟨rfl, qb.trans q1⟩
set_option maxHeartbeats 2000000 in
theorem mayLay_nil (l : List Ver) (v : Value) (s : Int) (x : Ver) (w : World) (hm : mayV x = true) (hz : ¬ (s = 1 ∧ x.id = 0)) (hn : l = []) (ht : Vers w w.heap.size v l) :
    Calls Try.prog 27 #[v, .int .i64 s, ver x] w fun e w' => e = .returned (.bool true) ∧ Q w w' := by
  have C := Lib.hid (fun b => may_any x b)
  rw [hm, ver] at C
  have qb : Q w (w.alloc (.cells #[.int .u64 (x.id : Nat), .string x.data, .bool x.mark, .int .i64 x.tm] 25)) := (Q.refl w).alloc _
  have T := Lib.hid ht
  subst hn
  obtain ⟨A, c, rfl⟩ := ht.shape
  simp only [List.length_nil] at T ⊢
  clear hm ht
  have hzz : (s == 1) = false ∨ (s = 1 ∧ ((x.id : Int) == 0) = false) := by
    by_cases h : s = 1
    · right; exact ⟨h, by have : ¬ (x.id : Int) = 0 := fun e => hz ⟨h, by omega⟩
                          simpa using this⟩
    · left; simpa using h
  clear hz
  rw [ver]
  rcases hzz with hz | ⟨rfl, hz⟩
  all_goals
    go_enter Try.func27, Try.ntmps27
    go_wp2_with fail
    refine (C.out _).mono ?_
    rintro e w1 ⟨rfl, q1⟩
    obtain ⟨b0, b1, b2, b3⟩ := box_of q1
    have qc := qb.trans q1

    go_wp2_with fail
    go_quiet (fail)
    go_wp2
    go_ret
    exact ⟨rfl, qc.drewN _⟩
set_option maxHeartbeats 2000000 in
theorem mayLay_yes (l : List Ver) (v : Value) (s : Int) (x : Ver) (w : World) (hm : mayV x = true) (hz : ¬ (s = 1 ∧ x.id = 0)) (h0 : 0 < l.length) (htm : l[0].tm ≤ x.tm) (ht : Vers w w.heap.size v l) :
    Calls Try.prog 27 #[v, .int .i64 s, ver x] w fun e w' => e = .returned (.bool true) ∧ Q w w' := by
  have C := Lib.hid (fun b => may_any x b)
  rw [hm, ver] at C
  have qb : Q w (w.alloc (.cells #[.int .u64 (x.id : Nat), .string x.data, .bool x.mark, .int .i64 x.tm] 25)) := (Q.refl w).alloc _
  have T := Lib.hid ht
  obtain ⟨A, c, rfl, -, -, -, f⟩ := ht
  obtain ⟨a, rfl, ha, hat⟩ := f 0 h0
  rw [Nat.zero_mul, show a.add 0 = a by cases a; simp [Addr.add]] at hat
  have HA : Hid (∀ b, Q w b → b.cell? ⟨a.block, a.off + 3, none⟩ = some (.int .i64 l[0].tm)) := Lib.hid (fun b q => (hat.keep ha fun _ hp => q.cell hp).2.2.2)
  have hlp : (0 : Int) < (l.length : Int) := by omega
  have hl0 : ((l.length : Int) == 0) = false := by
    have : ¬ (l.length : Int) = 0 := by omega
    simpa using this
  obtain ⟨y, hy⟩ : ∃ y, y = l[0].tm := ⟨_, rfl⟩
  rw [← hy] at HA htm
  clear f hat hy T
  have hd : decide (y ≤ x.tm) = true := decide_eq_true htm
  clear hm
  have hzz : (s == 1) = false ∨ (s = 1 ∧ ((x.id : Int) == 0) = false) := by
    by_cases h : s = 1
    · right; exact ⟨h, by have : ¬ (x.id : Int) = 0 := fun e => hz ⟨h, by omega⟩
                          simpa using this⟩
    · left; simpa using h
  clear hz
  rw [ver]
  rcases hzz with hz | ⟨rfl, hz⟩
  all_goals
    go_enter Try.func27, Try.ntmps27
    go_wp2_with fail
    refine (C.out _).mono ?_
    rintro e w1 ⟨rfl, q1⟩
    obtain ⟨b0, b1, b2, b3⟩ := box_of q1
    have qc := qb.trans q1
    have c3 := HA.out _ qc
    go_wp2_with fail
    go_quiet (fail)
    go_wp2
    go_ret
    exact ⟨by first | rfl | simp [htm], qc.drewN _⟩
set_option maxHeartbeats 2000000 in
theorem mayLay_no (l : List Ver) (v : Value) (s : Int) (x : Ver) (w : World) (hm : mayV x = true) (hz : ¬ (s = 1 ∧ x.id = 0)) (h0 : 0 < l.length) (htm : x.tm < l[0].tm) (ht : Vers w w.heap.size v l) :
    Calls Try.prog 27 #[v, .int .i64 s, ver x] w fun e w' => e = .returned (.bool false) ∧ Q w w' := by
  have C := Lib.hid (fun b => may_any x b)
  rw [hm, ver] at C
  have qb : Q w (w.alloc (.cells #[.int .u64 (x.id : Nat), .string x.data, .bool x.mark, .int .i64 x.tm] 25)) := (Q.refl w).alloc _
  have T := Lib.hid ht
  obtain ⟨A, c, rfl, -, -, -, f⟩ := ht
  obtain ⟨a, rfl, ha, hat⟩ := f 0 h0
  rw [Nat.zero_mul, show a.add 0 = a by cases a; simp [Addr.add]] at hat
  have HA : Hid (∀ b, Q w b → b.cell? ⟨a.block, a.off + 3, none⟩ = some (.int .i64 l[0].tm)) := Lib.hid (fun b q => (hat.keep ha fun _ hp => q.cell hp).2.2.2)
  have hlp : (0 : Int) < (l.length : Int) := by omega
  have hl0 : ((l.length : Int) == 0) = false := by
    have : ¬ (l.length : Int) = 0 := by omega
    simpa using this
  obtain ⟨y, hy⟩ : ∃ y, y = l[0].tm := ⟨_, rfl⟩
  rw [← hy] at HA htm
  clear f hat hy T
  have htm' : ¬ y ≤ x.tm := by omega
  have hd : decide (y ≤ x.tm) = false := decide_eq_false htm'
  clear hm
  have hzz : (s == 1) = false ∨ (s = 1 ∧ ((x.id : Int) == 0) = false) := by
    by_cases h : s = 1
    · right; exact ⟨h, by have : ¬ (x.id : Int) = 0 := fun e => hz ⟨h, by omega⟩
                          simpa using this⟩
    · left; simpa using h
  clear hz
  rw [ver]
  rcases hzz with hz | ⟨rfl, hz⟩
  all_goals
    go_enter Try.func27, Try.ntmps27
    go_wp2_with fail
    refine (C.out _).mono ?_
    rintro e w1 ⟨rfl, q1⟩
    obtain ⟨b0, b1, b2, b3⟩ := box_of q1
    have qc := qb.trans q1
    have c3 := HA.out _ qc
    go_wp2_with fail
    go_quiet (fail)
    go_wp2
    go_ret
    exact ⟨by first | rfl | simp [htm'], qc.drewN _⟩
end Go.Proofs.Ytflfhigldkdlmaa
