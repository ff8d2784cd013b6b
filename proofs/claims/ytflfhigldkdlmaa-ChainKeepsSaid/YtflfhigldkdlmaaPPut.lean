/-
  Contract of the program's Put.
-/
import Derived.Test.YtflfhigldkdlmaaPMayLay
namespace Go.Proofs.Ytflfhigldkdlmaa
open Go.ChangeShapes Go.WideShapes Go.ChangeAt Go.RowKit
set_option linter.unusedVariables false
set_option linter.unusedSimpArgs false

theorem lookup_none (s : Int) (h : s < 0 ∨ 2 < s) : ∃ z, Hid (∀ w b, w.heap[b]? = some (.map lay3 3) → (Instr.lookup layT (.map (some b)) (.int .i64 s) true).run Try.prog w = .ok (.tuple #[z, .bool false]) w) := by
  obtain ⟨z, hz⟩ := zero_fn
  refine ⟨z, Lib.hid fun w b hb => ?_⟩
  obtain ⟨z', hz'⟩ := lookup_miss w b s hb h
  have : z' = z := by
    have hf : Instr.findNow (.int .i64) (.int .i64 s) lay3.toList 0 = some none := by
      have a0 : (s == 0) = false := by simpa using (show ¬ s = 0 by omega)
      have a1 : (s == 1) = false := by simpa using (show ¬ s = 1 by omega)
      have a2 : (s == 2) = false := by simpa using (show ¬ s = 2 by omega)
      simp [lay3, lay2, lay1, lay0, Instr.findNow, Instr.sameNow, a0, a1, a2]
    simp [Instr.lookup, run_underlying Try.underlying60, MapKept.run_getObj_map hb, run_checkKey_int, run_findKey_now _ _ _ _ hf, hz, Result.andThen] at hz'
    exact hz'.symm
  rw [this] at hz'
  exact hz'
/-- The map's look-up for a state that is one. -/
theorem lookup_fn (w : World) (b : Nat) (s : Int) (g : Nat) (hg : layF s = g) (hb : w.heap[b]? = some (.map lay3 3)) (h0 : 0 ≤ s) (h2 : s ≤ 2) :
    (Instr.lookup layT (.map (some b)) (.int .i64 s) true).run Try.prog w = .ok (.tuple #[.func (.func g) #[] #[], .bool true]) w := by
  rw [lookup_hit w b s hb h0 h2, fnV, hg]
set_option maxHeartbeats 4000000 in
theorem put_chk (l : List Ver) (v : Value) (s : Int) (x : Ver) (w : World) (hR : ¬ okP l) (h0 : 0 ≤ s) (h2 : s ≤ 2) (hl : l.length ≤ 900) (hx : okV x) (ht : Vers w w.heap.size v l) :
    Calls Try.prog 12 #[v, .int .i64 s, ver x] w fun e w' => ∃ v', e = .returned (.tuple #[v', .int .i64 1]) ∧ OwnV w.heap.size w' v' [] ∧ Q w w' := by
  have hmf : ∀ (fn : Fn) (first cap : Array Value) (w : World), (Instr.makeFunc fn first cap).run Try.prog w = .ok (.func fn first cap) w := fun _ _ _ _ => rfl
  have qa : Q w (w.alloc (.cells #[.int .u64 (x.id : Nat), .string x.data, .bool x.mark, .int .i64 x.tm] 25)) := (Q.refl w).alloc _
  have LA := laying_any (w.alloc (.cells #[.int .u64 (x.id : Nat), .string x.data, .bool x.mark, .int .i64 x.tm] 25))
  rw [World.size_alloc] at LA
  have LA := Lib.hid LA
  have CK : Hid (∀ b, Q w b → Calls Try.prog 17 #[v] b fun e w' => e = .returned (.int .i64 1) ∧ Q b w') := Lib.hid (fun b q => check_bad l v b hR (by omega) (ht.on q))
  clear hR
  rw [ver]
  go_enter Try.func12, Try.ntmps12
  go_wp2_with fail
  refine (LA.out).mono ?_
  rintro e w1 ⟨rfl, hm1, q1⟩
  have qb := qa.trans q1
  have LK := lookup_fn w1 (w.heap.size + 1) s _ rfl hm1 h0 h2
  go_wp2_with (refine wpList_lookup_run _ rfl _ _ rfl _ _ _ rfl rfl LK ?_)
  refine (CK.out _ qb).mono ?_
  rintro e w2 ⟨rfl, q2⟩
  have qc := qb.trans q2
  go_wp2
  go_ret2
  exact ⟨_, rfl, OwnV.nil _ _, qc⟩
set_option maxHeartbeats 4000000 in
theorem put_chkx (l : List Ver) (v : Value) (s : Int) (x : Ver) (w : World) (hR : ¬ okP l) (hs : s < 0 ∨ 2 < s) (hl : l.length ≤ 900) (hx : okV x) (ht : Vers w w.heap.size v l) :
    Calls Try.prog 12 #[v, .int .i64 s, ver x] w fun e w' => ∃ v', e = .returned (.tuple #[v', .int .i64 1]) ∧ OwnV w.heap.size w' v' [] ∧ Q w w' := by
  have hmf : ∀ (fn : Fn) (first cap : Array Value) (w : World), (Instr.makeFunc fn first cap).run Try.prog w = .ok (.func fn first cap) w := fun _ _ _ _ => rfl
  have qa : Q w (w.alloc (.cells #[.int .u64 (x.id : Nat), .string x.data, .bool x.mark, .int .i64 x.tm] 25)) := (Q.refl w).alloc _
  have LA := laying_any (w.alloc (.cells #[.int .u64 (x.id : Nat), .string x.data, .bool x.mark, .int .i64 x.tm] 25))
  rw [World.size_alloc] at LA
  have LA := Lib.hid LA
  have CK : Hid (∀ b, Q w b → Calls Try.prog 17 #[v] b fun e w' => e = .returned (.int .i64 1) ∧ Q b w') := Lib.hid (fun b q => check_bad l v b hR (by omega) (ht.on q))
  obtain ⟨z, Z⟩ : ∃ z, Hid (∀ w b, w.heap[b]? = some (.map lay3 3) → (Instr.lookup layT (.map (some b)) (.int .i64 s) true).run Try.prog w = .ok (.tuple #[z, .bool false]) w) := lookup_none s hs
  clear hR hs
  rw [ver]
  go_enter Try.func12, Try.ntmps12
  go_wp2_with fail
  refine (LA.out).mono ?_
  rintro e w1 ⟨rfl, hm1, q1⟩
  have qb := qa.trans q1
  have LK := Z.out w1 (w.heap.size + 1) hm1
  go_wp2_with (refine wpList_lookup_run _ rfl _ _ rfl _ _ _ rfl rfl LK ?_)
  refine (CK.out _ qb).mono ?_
  rintro e w2 ⟨rfl, q2⟩
  have qc := qb.trans q2
  go_wp2
  go_ret2
  exact ⟨_, rfl, OwnV.nil _ _, qc⟩
set_option maxHeartbeats 4000000 in
theorem put_state (l : List Ver) (v : Value) (s : Int) (x : Ver) (w : World) (hR : okP l) (hs : s < 0 ∨ 2 < s) (hl : l.length ≤ 900) (hx : okV x) (ht : Vers w w.heap.size v l) :
    Calls Try.prog 12 #[v, .int .i64 s, ver x] w fun e w' => ∃ v', e = .returned (.tuple #[v', .int .i64 1]) ∧ OwnV w.heap.size w' v' [] ∧ Q w w' := by
  have hmf : ∀ (fn : Fn) (first cap : Array Value) (w : World), (Instr.makeFunc fn first cap).run Try.prog w = .ok (.func fn first cap) w := fun _ _ _ _ => rfl
  have qa : Q w (w.alloc (.cells #[.int .u64 (x.id : Nat), .string x.data, .bool x.mark, .int .i64 x.tm] 25)) := (Q.refl w).alloc _
  have LA := laying_any (w.alloc (.cells #[.int .u64 (x.id : Nat), .string x.data, .bool x.mark, .int .i64 x.tm] 25))
  rw [World.size_alloc] at LA
  have LA := Lib.hid LA
  have CK : Hid (∀ b, Q w b → Calls Try.prog 17 #[v] b fun e w' => e = .returned (.int .i64 0) ∧ Q b w') := Lib.hid (fun b q => check_ok l v b hR (by omega) (ht.on q))
  obtain ⟨z, Z⟩ : ∃ z, Hid (∀ w b, w.heap[b]? = some (.map lay3 3) → (Instr.lookup layT (.map (some b)) (.int .i64 s) true).run Try.prog w = .ok (.tuple #[z, .bool false]) w) := lookup_none s hs
  clear hR hs
  rw [ver]
  go_enter Try.func12, Try.ntmps12
  go_wp2_with fail
  refine (LA.out).mono ?_
  rintro e w1 ⟨rfl, hm1, q1⟩
  have qb := qa.trans q1
  have LK := Z.out w1 (w.heap.size + 1) hm1
  go_wp2_with (refine wpList_lookup_run _ rfl _ _ rfl _ _ _ rfl rfl LK ?_)
  refine (CK.out _ qb).mono ?_
  rintro e w2 ⟨rfl, q2⟩
  have qc := qb.trans q2
  go_wp2
  go_ret2
  exact ⟨_, rfl, OwnV.nil _ _, qc⟩
set_option maxHeartbeats 4000000 in
theorem put_bad (l : List Ver) (v : Value) (s : Int) (x : Ver) (w : World) (hR : okP l) (h0 : 0 ≤ s) (h2 : s ≤ 2) (hML : ∀ b, Q w b → Calls Try.prog 27 #[v, .int .i64 s, ver x] b fun e w' => e = .returned (.bool false) ∧ Q b w') (hl : l.length ≤ 900) (hx : okV x) (ht : Vers w w.heap.size v l) :
    Calls Try.prog 12 #[v, .int .i64 s, ver x] w fun e w' => ∃ v', e = .returned (.tuple #[v', .int .i64 1]) ∧ OwnV w.heap.size w' v' [] ∧ Q w w' := by
  have hmf : ∀ (fn : Fn) (first cap : Array Value) (w : World), (Instr.makeFunc fn first cap).run Try.prog w = .ok (.func fn first cap) w := fun _ _ _ _ => rfl
  have qa : Q w (w.alloc (.cells #[.int .u64 (x.id : Nat), .string x.data, .bool x.mark, .int .i64 x.tm] 25)) := (Q.refl w).alloc _
  have LA := laying_any (w.alloc (.cells #[.int .u64 (x.id : Nat), .string x.data, .bool x.mark, .int .i64 x.tm] 25))
  rw [World.size_alloc] at LA
  have LA := Lib.hid LA
  have CK : Hid (∀ b, Q w b → Calls Try.prog 17 #[v] b fun e w' => e = .returned (.int .i64 0) ∧ Q b w') := Lib.hid (fun b q => check_ok l v b hR (by omega) (ht.on q))
  have ML : Hid (∀ b, Q w b → Calls Try.prog 27 #[v, .int .i64 s, .agg #[.int .u64 (x.id : Nat), .string x.data, .bool x.mark, .int .i64 x.tm]] b fun e w' => e = .returned (.bool false) ∧ Q b w') := Lib.hid (fun b q => hML b q)
  clear hR hML
  rw [ver]
  go_enter Try.func12, Try.ntmps12
  go_wp2_with fail
  refine (LA.out).mono ?_
  rintro e w1 ⟨rfl, hm1, q1⟩
  have qb := qa.trans q1
  have LK := lookup_fn w1 (w.heap.size + 1) s _ rfl hm1 h0 h2
  go_wp2_with (refine wpList_lookup_run _ rfl _ _ rfl _ _ _ rfl rfl LK ?_)
  refine (CK.out _ qb).mono ?_
  rintro e w2 ⟨rfl, q2⟩
  have qc := qb.trans q2
  obtain ⟨b0, b1, b2, b3⟩ := box_of (q1.trans q2)
  go_wp2_with fail
  refine (ML.out _ qc).mono ?_
  rintro e w3 ⟨rfl, q3⟩
  have qd := qc.trans q3
  have qd1 := (q1.trans q2).trans q3
  clear b0 b1 b2 b3
  go_wp2
  go_ret2
  exact ⟨_, rfl, OwnV.nil _ _, qd⟩
set_option maxHeartbeats 4000000 in
theorem put_order (l : List Ver) (v : Value) (s : Int) (x : Ver) (w : World) (hR : okP l) (hs : s = 1) (hML : ∀ b, Q w b → Calls Try.prog 27 #[v, .int .i64 s, ver x] b fun e w' => e = .returned (.bool true) ∧ Q b w') (hany : l.any (fun y => decide (x.id ≤ y.id)) = true) (hl : l.length ≤ 900) (hx : okV x) (ht : Vers w w.heap.size v l) :
    Calls Try.prog 12 #[v, .int .i64 s, ver x] w fun e w' => ∃ v', e = .returned (.tuple #[v', .int .i64 9]) ∧ OwnV w.heap.size w' v' [] ∧ Q w w' := by
  have hmf : ∀ (fn : Fn) (first cap : Array Value) (w : World), (Instr.makeFunc fn first cap).run Try.prog w = .ok (.func fn first cap) w := fun _ _ _ _ => rfl
  have qa : Q w (w.alloc (.cells #[.int .u64 (x.id : Nat), .string x.data, .bool x.mark, .int .i64 x.tm] 25)) := (Q.refl w).alloc _
  have LA := laying_any (w.alloc (.cells #[.int .u64 (x.id : Nat), .string x.data, .bool x.mark, .int .i64 x.tm] 25))
  rw [World.size_alloc] at LA
  have LA := Lib.hid LA
  have CK : Hid (∀ b, Q w b → Calls Try.prog 17 #[v] b fun e w' => e = .returned (.int .i64 0) ∧ Q b w') := Lib.hid (fun b q => check_ok l v b hR (by omega) (ht.on q))
  have ML : Hid (∀ b, Q w b → Calls Try.prog 27 #[v, .int .i64 s, .agg #[.int .u64 (x.id : Nat), .string x.data, .bool x.mark, .int .i64 x.tm]] b fun e w' => e = .returned (.bool true) ∧ Q b w') := Lib.hid (fun b q => hML b q)
  have CF : Hid (∀ b, Q (w.alloc (.cells #[.int .u64 (x.id : Nat), .string x.data, .bool x.mark, .int .i64 x.tm] 25)) b → Calls Try.prog 29 #[v, .func (.func 28) #[] #[.pointer (some ⟨w.heap.size, 0, none⟩)]] b fun e w' => e = .returned (.bool true) ∧ Q b w') := Lib.hid (fun b q => by
    have := containsFunc_any 28 w.heap.size (fun y => decide (x.id ≤ y.id)) l v b eg_put (fun y d q2 => notBelow_any y x w.heap.size d (box_of (q.trans q2)).1 (Nat.lt_of_lt_of_le (by simp) (Q.size (q.trans q2)))) (by omega) (ht.on (qa.trans q))
    rw [hany] at this
    exact this)
  subst hs
  have hg : layF 1 = 37 := rfl
  clear hR hML hany
  rw [ver]
  go_enter Try.func12, Try.ntmps12
  go_wp2_with fail
  refine (LA.out).mono ?_
  rintro e w1 ⟨rfl, hm1, q1⟩
  have qb := qa.trans q1
  have LK := lookup_fn w1 (w.heap.size + 1) 1 37 hg hm1 (by omega) (by omega)
  go_wp2_with (refine wpList_lookup_run _ rfl _ _ rfl _ _ _ rfl rfl LK ?_)
  refine (CK.out _ qb).mono ?_
  rintro e w2 ⟨rfl, q2⟩
  have qc := qb.trans q2
  obtain ⟨b0, b1, b2, b3⟩ := box_of (q1.trans q2)
  go_wp2_with fail
  refine (ML.out _ qc).mono ?_
  rintro e w3 ⟨rfl, q3⟩
  have qd := qc.trans q3
  have qd1 := (q1.trans q2).trans q3
  clear b0 b1 b2 b3
  go_wp2_with fail
  refine (CF.out _ qd1).mono ?_
  rintro e w4 ⟨rfl, q4⟩
  have qe := qd.trans q4
  have qe1 := qd1.trans q4
  go_wp2
  go_ret2
  exact ⟨_, rfl, OwnV.nil _ _, qe⟩
set_option maxHeartbeats 4000000 in
theorem put_large (l : List Ver) (v : Value) (s : Int) (x : Ver) (w : World) (hR : okP l) (hs : s = 1) (hML : ∀ b, Q w b → Calls Try.prog 27 #[v, .int .i64 s, ver x] b fun e w' => e = .returned (.bool true) ∧ Q b w') (hany : l.any (fun y => decide (x.id ≤ y.id)) = false) (h20 : 20 ≤ l.length) (hl : l.length ≤ 900) (hx : okV x) (ht : Vers w w.heap.size v l) :
    Calls Try.prog 12 #[v, .int .i64 s, ver x] w fun e w' => ∃ v', e = .returned (.tuple #[v', .int .i64 6]) ∧ OwnV w.heap.size w' v' [] ∧ Q w w' := by
  have hmf : ∀ (fn : Fn) (first cap : Array Value) (w : World), (Instr.makeFunc fn first cap).run Try.prog w = .ok (.func fn first cap) w := fun _ _ _ _ => rfl
  have qa : Q w (w.alloc (.cells #[.int .u64 (x.id : Nat), .string x.data, .bool x.mark, .int .i64 x.tm] 25)) := (Q.refl w).alloc _
  have LA := laying_any (w.alloc (.cells #[.int .u64 (x.id : Nat), .string x.data, .bool x.mark, .int .i64 x.tm] 25))
  rw [World.size_alloc] at LA
  have LA := Lib.hid LA
  have CK : Hid (∀ b, Q w b → Calls Try.prog 17 #[v] b fun e w' => e = .returned (.int .i64 0) ∧ Q b w') := Lib.hid (fun b q => check_ok l v b hR (by omega) (ht.on q))
  have ML : Hid (∀ b, Q w b → Calls Try.prog 27 #[v, .int .i64 s, .agg #[.int .u64 (x.id : Nat), .string x.data, .bool x.mark, .int .i64 x.tm]] b fun e w' => e = .returned (.bool true) ∧ Q b w') := Lib.hid (fun b q => hML b q)
  have CF : Hid (∀ b, Q (w.alloc (.cells #[.int .u64 (x.id : Nat), .string x.data, .bool x.mark, .int .i64 x.tm] 25)) b → Calls Try.prog 29 #[v, .func (.func 28) #[] #[.pointer (some ⟨w.heap.size, 0, none⟩)]] b fun e w' => e = .returned (.bool false) ∧ Q b w') := Lib.hid (fun b q => by
    have := containsFunc_any 28 w.heap.size (fun y => decide (x.id ≤ y.id)) l v b eg_put (fun y d q2 => notBelow_any y x w.heap.size d (box_of (q.trans q2)).1 (Nat.lt_of_lt_of_le (by simp) (Q.size (q.trans q2)))) (by omega) (ht.on (qa.trans q))
    rw [hany] at this
    exact this)
  have CA : Hid (∀ b, Q w b → Calls Try.prog 37 #[v, .agg #[.int .u64 (x.id : Nat), .string x.data, .bool x.mark, .int .i64 x.tm]] b fun e w' => ∃ v', e = .returned v' ∧ OwnV b.heap.size w' v' (x :: l) ∧ Q b w') := Lib.hid (fun b q => ahead_any l v x b hx (by omega) (ht.on q))
  subst hs
  have hg : layF 1 = 37 := rfl
  have h20' : (20 : Int) < (((x :: l).length : Nat) : Int) := by rw [List.length_cons]; omega
  clear hR hML hany h20
  generalize hk : (x :: l).length = K at h20'
  rw [ver]
  go_enter Try.func12, Try.ntmps12
  go_wp2_with fail
  refine (LA.out).mono ?_
  rintro e w1 ⟨rfl, hm1, q1⟩
  have qb := qa.trans q1
  have LK := lookup_fn w1 (w.heap.size + 1) 1 37 hg hm1 (by omega) (by omega)
  go_wp2_with (refine wpList_lookup_run _ rfl _ _ rfl _ _ _ rfl rfl LK ?_)
  refine (CK.out _ qb).mono ?_
  rintro e w2 ⟨rfl, q2⟩
  have qc := qb.trans q2
  obtain ⟨b0, b1, b2, b3⟩ := box_of (q1.trans q2)
  go_wp2_with fail
  refine (ML.out _ qc).mono ?_
  rintro e w3 ⟨rfl, q3⟩
  have qd := qc.trans q3
  have qd1 := (q1.trans q2).trans q3
  clear b0 b1 b2 b3
  go_wp2_with fail
  refine (CF.out _ qd1).mono ?_
  rintro e w4 ⟨rfl, q4⟩
  have qe := qd.trans q4
  have qe1 := qd1.trans q4
  obtain ⟨d0, d1, d2, d3⟩ := box_of qe1
  go_wp2_with fail
  refine (CA.out _ qe).mono ?_
  rintro e w5 ⟨v5, rfl, o5, q5⟩
  have qf := qe.trans q5
  have O5 := Lib.hid o5
  obtain ⟨A5, c5, rfl⟩ := own_len o5
  clear o5
  rw [hk]
  go_wp2
  go_ret2
  exact ⟨_, rfl, OwnV.nil _ _, qf⟩
set_option maxHeartbeats 4000000 in
theorem put_on (l : List Ver) (v : Value) (s : Int) (x : Ver) (w : World) (hR : okP l) (hs : s = 1) (hML : ∀ b, Q w b → Calls Try.prog 27 #[v, .int .i64 s, ver x] b fun e w' => e = .returned (.bool true) ∧ Q b w') (hany : l.any (fun y => decide (x.id ≤ y.id)) = false) (h20 : l.length < 20) (hl : l.length ≤ 900) (hx : okV x) (ht : Vers w w.heap.size v l) :
    Calls Try.prog 12 #[v, .int .i64 s, ver x] w fun e w' => ∃ v', e = .returned (.tuple #[v', .int .i64 0]) ∧ OwnV w.heap.size w' v' (x :: l) ∧ Q w w' := by
  have hmf : ∀ (fn : Fn) (first cap : Array Value) (w : World), (Instr.makeFunc fn first cap).run Try.prog w = .ok (.func fn first cap) w := fun _ _ _ _ => rfl
  have qa : Q w (w.alloc (.cells #[.int .u64 (x.id : Nat), .string x.data, .bool x.mark, .int .i64 x.tm] 25)) := (Q.refl w).alloc _
  have LA := laying_any (w.alloc (.cells #[.int .u64 (x.id : Nat), .string x.data, .bool x.mark, .int .i64 x.tm] 25))
  rw [World.size_alloc] at LA
  have LA := Lib.hid LA
  have CK : Hid (∀ b, Q w b → Calls Try.prog 17 #[v] b fun e w' => e = .returned (.int .i64 0) ∧ Q b w') := Lib.hid (fun b q => check_ok l v b hR (by omega) (ht.on q))
  have ML : Hid (∀ b, Q w b → Calls Try.prog 27 #[v, .int .i64 s, .agg #[.int .u64 (x.id : Nat), .string x.data, .bool x.mark, .int .i64 x.tm]] b fun e w' => e = .returned (.bool true) ∧ Q b w') := Lib.hid (fun b q => hML b q)
  have CF : Hid (∀ b, Q (w.alloc (.cells #[.int .u64 (x.id : Nat), .string x.data, .bool x.mark, .int .i64 x.tm] 25)) b → Calls Try.prog 29 #[v, .func (.func 28) #[] #[.pointer (some ⟨w.heap.size, 0, none⟩)]] b fun e w' => e = .returned (.bool false) ∧ Q b w') := Lib.hid (fun b q => by
    have := containsFunc_any 28 w.heap.size (fun y => decide (x.id ≤ y.id)) l v b eg_put (fun y d q2 => notBelow_any y x w.heap.size d (box_of (q.trans q2)).1 (Nat.lt_of_lt_of_le (by simp) (Q.size (q.trans q2)))) (by omega) (ht.on (qa.trans q))
    rw [hany] at this
    exact this)
  have CA : Hid (∀ b, Q w b → Calls Try.prog 37 #[v, .agg #[.int .u64 (x.id : Nat), .string x.data, .bool x.mark, .int .i64 x.tm]] b fun e w' => ∃ v', e = .returned v' ∧ OwnV b.heap.size w' v' (x :: l) ∧ Q b w') := Lib.hid (fun b q => ahead_any l v x b hx (by omega) (ht.on q))
  subst hs
  have hg : layF 1 = 37 := rfl
  have h20' : ¬ (20 : Int) < (((x :: l).length : Nat) : Int) := by rw [List.length_cons]; omega
  clear hR hML hany h20
  obtain ⟨K, hk⟩ : ∃ K, (x :: l).length = K := ⟨_, rfl⟩
  rw [hk] at h20'
  rw [ver]
  go_enter Try.func12, Try.ntmps12
  go_wp2_with fail
  refine (LA.out).mono ?_
  rintro e w1 ⟨rfl, hm1, q1⟩
  have qb := qa.trans q1
  have LK := lookup_fn w1 (w.heap.size + 1) 1 37 hg hm1 (by omega) (by omega)
  go_wp2_with (refine wpList_lookup_run _ rfl _ _ rfl _ _ _ rfl rfl LK ?_)
  refine (CK.out _ qb).mono ?_
  rintro e w2 ⟨rfl, q2⟩
  have qc := qb.trans q2
  obtain ⟨b0, b1, b2, b3⟩ := box_of (q1.trans q2)
  go_wp2_with fail
  refine (ML.out _ qc).mono ?_
  rintro e w3 ⟨rfl, q3⟩
  have qd := qc.trans q3
  have qd1 := (q1.trans q2).trans q3
  clear b0 b1 b2 b3
  go_wp2_with fail
  refine (CF.out _ qd1).mono ?_
  rintro e w4 ⟨rfl, q4⟩
  have qe := qd.trans q4
  have qe1 := qd1.trans q4
  obtain ⟨d0, d1, d2, d3⟩ := box_of qe1
  go_wp2_with fail
  refine (CA.out _ qe).mono ?_
  rintro e w5 ⟨v5, rfl, o5, q5⟩
  have qf := qe.trans q5
  have O5 := Lib.hid o5
  obtain ⟨A5, c5, rfl⟩ := own_len o5
  clear o5
  rw [hk] at O5 ⊢
  go_wp2
  go_ret2
  exact ⟨_, rfl, OwnV.lower O5.out qe.size, qf⟩
set_option maxHeartbeats 4000000 in
theorem put_large0 (l : List Ver) (v : Value) (s : Int) (x : Ver) (w : World) (hR : okP l) (hs : s = 0 ∨ s = 2) (hML : ∀ b, Q w b → Calls Try.prog 27 #[v, .int .i64 s, ver x] b fun e w' => e = .returned (.bool true) ∧ Q b w') (h20 : 20 ≤ (woV l 0).length) (hl : l.length ≤ 900) (hx : okV x) (ht : Vers w w.heap.size v l) :
    Calls Try.prog 12 #[v, .int .i64 s, ver x] w fun e w' => ∃ v', e = .returned (.tuple #[v', .int .i64 6]) ∧ OwnV w.heap.size w' v' [] ∧ Q w w' := by
  have hmf : ∀ (fn : Fn) (first cap : Array Value) (w : World), (Instr.makeFunc fn first cap).run Try.prog w = .ok (.func fn first cap) w := fun _ _ _ _ => rfl
  have qa : Q w (w.alloc (.cells #[.int .u64 (x.id : Nat), .string x.data, .bool x.mark, .int .i64 x.tm] 25)) := (Q.refl w).alloc _
  have LA := laying_any (w.alloc (.cells #[.int .u64 (x.id : Nat), .string x.data, .bool x.mark, .int .i64 x.tm] 25))
  rw [World.size_alloc] at LA
  have LA := Lib.hid LA
  have CK : Hid (∀ b, Q w b → Calls Try.prog 17 #[v] b fun e w' => e = .returned (.int .i64 0) ∧ Q b w') := Lib.hid (fun b q => check_ok l v b hR (by omega) (ht.on q))
  have ML : Hid (∀ b, Q w b → Calls Try.prog 27 #[v, .int .i64 s, .agg #[.int .u64 (x.id : Nat), .string x.data, .bool x.mark, .int .i64 x.tm]] b fun e w' => e = .returned (.bool true) ∧ Q b w') := Lib.hid (fun b q => hML b q)
  have CA : Hid (∀ b, Q w b → Calls Try.prog 36 #[v, .agg #[.int .u64 (x.id : Nat), .string x.data, .bool x.mark, .int .i64 x.tm]] b fun e w' => ∃ v', e = .returned v' ∧ OwnV b.heap.size w' v' (zeroId x :: woV l 0) ∧ Q b w') := Lib.hid (fun b q => over_any l v x b hR hx (by omega) (ht.on q))
  have hg : layF s = 36 := by rcases hs with rfl | rfl <;> rfl
  have hs1 : (s == 1) = false := by rcases hs with rfl | rfl <;> rfl
  have h20' : (20 : Int) < (((zeroId x :: woV l 0).length : Nat) : Int) := by rw [List.length_cons]; omega
  clear hR hML h20
  generalize hk : (zeroId x :: woV l 0).length = K at h20'
  rw [ver]
  go_enter Try.func12, Try.ntmps12
  go_wp2_with fail
  refine (LA.out).mono ?_
  rintro e w1 ⟨rfl, hm1, q1⟩
  have qb := qa.trans q1
  have LK := lookup_fn w1 (w.heap.size + 1) s 36 hg hm1 (by omega) (by omega)
  go_wp2_with (refine wpList_lookup_run _ rfl _ _ rfl _ _ _ rfl rfl LK ?_)
  refine (CK.out _ qb).mono ?_
  rintro e w2 ⟨rfl, q2⟩
  have qc := qb.trans q2
  obtain ⟨b0, b1, b2, b3⟩ := box_of (q1.trans q2)
  go_wp2_with fail
  refine (ML.out _ qc).mono ?_
  rintro e w3 ⟨rfl, q3⟩
  have qd := qc.trans q3
  have qd1 := (q1.trans q2).trans q3
  clear b0 b1 b2 b3
  have qe := qd
  have qe1 := qd1
  obtain ⟨d0, d1, d2, d3⟩ := box_of qe1
  go_wp2_with fail
  refine (CA.out _ qe).mono ?_
  rintro e w5 ⟨v5, rfl, o5, q5⟩
  have qf := qe.trans q5
  have O5 := Lib.hid o5
  obtain ⟨A5, c5, rfl⟩ := own_len o5
  clear o5
  rw [hk]
  go_wp2
  go_ret2
  exact ⟨_, rfl, OwnV.nil _ _, qf⟩
set_option maxHeartbeats 4000000 in
theorem put_over (l : List Ver) (v : Value) (s : Int) (x : Ver) (w : World) (hR : okP l) (hs : s = 0 ∨ s = 2) (hML : ∀ b, Q w b → Calls Try.prog 27 #[v, .int .i64 s, ver x] b fun e w' => e = .returned (.bool true) ∧ Q b w') (h20 : (woV l 0).length < 20) (hl : l.length ≤ 900) (hx : okV x) (ht : Vers w w.heap.size v l) :
    Calls Try.prog 12 #[v, .int .i64 s, ver x] w fun e w' => ∃ v', e = .returned (.tuple #[v', .int .i64 0]) ∧ OwnV w.heap.size w' v' (zeroId x :: woV l 0) ∧ Q w w' := by
  have hmf : ∀ (fn : Fn) (first cap : Array Value) (w : World), (Instr.makeFunc fn first cap).run Try.prog w = .ok (.func fn first cap) w := fun _ _ _ _ => rfl
  have qa : Q w (w.alloc (.cells #[.int .u64 (x.id : Nat), .string x.data, .bool x.mark, .int .i64 x.tm] 25)) := (Q.refl w).alloc _
  have LA := laying_any (w.alloc (.cells #[.int .u64 (x.id : Nat), .string x.data, .bool x.mark, .int .i64 x.tm] 25))
  rw [World.size_alloc] at LA
  have LA := Lib.hid LA
  have CK : Hid (∀ b, Q w b → Calls Try.prog 17 #[v] b fun e w' => e = .returned (.int .i64 0) ∧ Q b w') := Lib.hid (fun b q => check_ok l v b hR (by omega) (ht.on q))
  have ML : Hid (∀ b, Q w b → Calls Try.prog 27 #[v, .int .i64 s, .agg #[.int .u64 (x.id : Nat), .string x.data, .bool x.mark, .int .i64 x.tm]] b fun e w' => e = .returned (.bool true) ∧ Q b w') := Lib.hid (fun b q => hML b q)
  have CA : Hid (∀ b, Q w b → Calls Try.prog 36 #[v, .agg #[.int .u64 (x.id : Nat), .string x.data, .bool x.mark, .int .i64 x.tm]] b fun e w' => ∃ v', e = .returned v' ∧ OwnV b.heap.size w' v' (zeroId x :: woV l 0) ∧ Q b w') := Lib.hid (fun b q => over_any l v x b hR hx (by omega) (ht.on q))
  have hg : layF s = 36 := by rcases hs with rfl | rfl <;> rfl
  have hs1 : (s == 1) = false := by rcases hs with rfl | rfl <;> rfl
  have h20' : ¬ (20 : Int) < (((zeroId x :: woV l 0).length : Nat) : Int) := by rw [List.length_cons]; omega
  clear hR hML h20
  obtain ⟨K, hk⟩ : ∃ K, (zeroId x :: woV l 0).length = K := ⟨_, rfl⟩
  rw [hk] at h20'
  rw [ver]
  go_enter Try.func12, Try.ntmps12
  go_wp2_with fail
  refine (LA.out).mono ?_
  rintro e w1 ⟨rfl, hm1, q1⟩
  have qb := qa.trans q1
  have LK := lookup_fn w1 (w.heap.size + 1) s 36 hg hm1 (by omega) (by omega)
  go_wp2_with (refine wpList_lookup_run _ rfl _ _ rfl _ _ _ rfl rfl LK ?_)
  refine (CK.out _ qb).mono ?_
  rintro e w2 ⟨rfl, q2⟩
  have qc := qb.trans q2
  obtain ⟨b0, b1, b2, b3⟩ := box_of (q1.trans q2)
  go_wp2_with fail
  refine (ML.out _ qc).mono ?_
  rintro e w3 ⟨rfl, q3⟩
  have qd := qc.trans q3
  have qd1 := (q1.trans q2).trans q3
  clear b0 b1 b2 b3
  have qe := qd
  have qe1 := qd1
  obtain ⟨d0, d1, d2, d3⟩ := box_of qe1
  go_wp2_with fail
  refine (CA.out _ qe).mono ?_
  rintro e w5 ⟨v5, rfl, o5, q5⟩
  have qf := qe.trans q5
  have O5 := Lib.hid o5
  obtain ⟨A5, c5, rfl⟩ := own_len o5
  clear o5
  rw [hk] at O5 ⊢
  go_wp2
  go_ret2
  exact ⟨_, rfl, OwnV.lower O5.out qe.size, qf⟩
end Go.Proofs.Ytflfhigldkdlmaa
