/-
  Proved: whatever chain and ID ChainFirst is called with, it returns true and leaves what it was given as it was. No condition.
-/
import Derived.Test.YtflfhigldkdlmaaVBox
namespace Go.Proofs.Ytflfhigldkdlmaa.chainFirst
open Go.ChangeShapes Go.WideShapes Go.ChangeAt Go.RowKit
open Go.ChangeMaps (open_string shut_string)
set_option linter.unusedVariables false
set_option linter.unusedSimpArgs false

theorem nil_or (l : List Ver) : l = [] ∨ ∃ y m, l = y :: m := by cases l <;> simp
theorem any_take {l : List Ver} {i : Nat} (h : i < l.length) (p : Ver → Bool) : (l.take (i + 1)).any p = ((l.take i).any p || p l[i]) := by
  rw [List.take_succ_eq_append_getElem h, List.any_append]; simp
theorem find_any_no {l : List Ver} {id : Nat} (h : findV l id = none) : l.any (fun x => decide (x.id = id)) = false := by
  rw [findV, List.find?_eq_none] at h
  rw [List.any_eq_false]
  exact h
theorem find_any_yes {l : List Ver} {id : Nat} {y : Ver} (h : findV l id = some y) : l.any (fun x => decide (x.id = id)) = true := by
  unfold findV at h
  rw [List.any_eq_true]
  have h2 := List.find?_some h
  exact ⟨y, List.mem_of_find?_eq_some h, by simpa using h2⟩
set_option maxHeartbeats 4000000 in
set_option maxRecDepth 100000 in
theorem walk_no (l : List Ver) (v : Value) (id : Nat) (w : World) (t0 : Vers w w.heap.size v l) (z0 : l.length ≤ maxLen) (hR : ¬ okP (fewV l)) :
    Calls Try.prog 8 #[v, .int .u64 (id : Nat)] w fun e w' => e = .returned (.bool true) ∧ Q w w' := by
  obtain ⟨L, hL, hlen, hfew, hok, FW⟩ := few_all l v w z0 t0
  rw [← hL] at hR
  have OK := Lib.hid hok
  have CK : Hid (∀ (b : World) (u : Value) (hu : Vers b b.heap.size u L), Calls Try.prog 17 #[u] b fun e w' => e = .returned (.int .i64 1) ∧ Q b w') := Lib.hid (fun b u hu => check_bad L u b hR (by omega) hu)
  clear hok hfew hL hR t0
  go_enter Try.func8, Try.ntmps8
  go_wp2_with fail
  refine (FW.out).mono ?_
  rintro e w1 ⟨v1, rfl, o1, q1⟩
  have t1 := o1.vers OK.out
  go_wp2_with fail
  refine (CK.out _ _ t1).mono ?_
  rintro e w2 ⟨rfl, q2⟩
  go_wp2_with fail
  refine (awake_any _).mono ?_
  rintro e w3 ⟨rfl, q3⟩
  go_wp2
  go_ret
  exact ⟨rfl, ((((Q.refl _).trans q1).trans q2).trans q3)⟩
set_option maxHeartbeats 4000000 in
set_option maxRecDepth 100000 in
theorem walk_ok (l : List Ver) (v : Value) (id : Nat) (w : World) (t0 : Vers w w.heap.size v l) (z0 : l.length ≤ maxLen) (hR : okP (fewV l)) :
    Calls Try.prog 8 #[v, .int .u64 (id : Nat)] w fun e w' => e = .returned (.bool true) ∧ Q w w' := by
  obtain ⟨L, hL, hlen, hfew, hok, FW⟩ := few_all l v w z0 t0
  rw [← hL] at hR
  have OK := Lib.hid hok
  have CK : Hid (∀ (b : World) (u : Value) (hu : Vers b b.heap.size u L), Calls Try.prog 17 #[u] b fun e w' => e = .returned (.int .i64 0) ∧ Q b w') := Lib.hid (fun b u hu => check_ok L u b hR (by omega) hu)
  have FD : Hid (∀ (n : Nat) (b : World) (u : Value) (hu : Vers b b.heap.size u L), Calls Try.prog 24 #[u, .int .u64 (n : Nat)] b fun e w' => e = .returned (findR (findV L n)) ∧ Q b w') := Lib.hid (fun n b u hu => find_any L u n b hR (by omega) hu)
  have GT : Hid (∀ (b : World) (u : Value) (hu : Vers b b.heap.size u L), Calls Try.prog 22 #[u] b fun e w' => e = .returned (findR L.head?) ∧ Q b w') := Lib.hid (fun b u hu => get_any L u b hR (by omega) hu)
  have AP : Hid (∀ i (h : i < L.length), findV L L[i].id = some L[i]) := Lib.hid (fun i h => find_at (fun j hj hl => okP_apart hR hj h) h rfl)
  clear hok hfew hL hR t0
  go_enter Try.func8, Try.ntmps8
  go_wp2_with fail
  refine (FW.out).mono ?_
  rintro e w1 ⟨v1, rfl, o1, q1⟩
  have t1 := o1.vers OK.out
  clear o1
  have T1 := Lib.hid t1
  obtain ⟨A, c, rfl, -, -, -, hcs⟩ := t1
  have HC := Lib.hid hcs
  clear hcs
  go_wp2_with fail
  refine (CK.out _ _ T1.out).mono ?_
  rintro e w2 ⟨rfl, q2⟩
  go_wp2_with fail
  go_loopw [5, 6, 7, 8] (fun TH I _ _ wr => ∃ (i : Nat) (th : Bool), i ≤ L.length ∧ I = .int .i64 i ∧ TH = .bool th ∧ Q w1 wr ∧ Hid (th = (L.take i).any (fun x => decide (x.id = id)))) (fun _ I _ _ _ => L.length - (intOf I).toNat)
  case atStart => exact ⟨0, false, Nat.zero_le _, rfl, rfl, q2, Lib.hid rfl⟩
  case round =>
    obtain ⟨i, th, hil, rfl, rfl, qr, HT⟩ := hrel
    by_cases hlt : i < L.length
    · obtain ⟨a, rfl, ha, hat⟩ := HC.out i hlt
      have AT : Hid (∀ b, Q w1 b → At b (a.add (i * 4)) L[i]) := Lib.hid (fun b q => hat.keep (by rw [add_block]; exact ha) fun _ hp => q.cell hp)
      have HN : Hid ((L.take (i + 1)).any (fun x => decide (x.id = id)) = (th || decide (L[i].id = id))) := Lib.hid (by rw [any_take hlt, HT.out])
      have hff := AP.out i hlt
      obtain ⟨x, hx⟩ : ∃ x, x = L[i] := ⟨_, rfl⟩
      rw [← hx] at HN hff AT
      have hilt : (i : Int) < (L.length : Int) := by omega
      clear hx hat
      cases hm : x.mark
      case true =>
        have FI := FD.out x.id _ _ (T1.out.on qr)
        rw [hff] at FI
        simp only [findR, ver, hm, if_true] at FI
        obtain ⟨c0, c1, c2, c3⟩ := AT.out _ qr
        rw [hm] at c2
        have FI := Lib.hid FI
        cases th
        case true =>
          have HN2 : Hid (true = (L.take (i + 1)).any (fun x => decide (x.id = id))) := Lib.hid (by rw [HN.out]; simp)
          clear HN HT
          go_wp2_with fail
          refine (FI.out).mono ?_
          rintro e w5 ⟨rfl, q5⟩
          have q6 := (qr.trans q5).alloc (.cells #[.int .u64 (x.id : Nat), .string x.data, .bool true, .int .i64 x.tm] 25)
          obtain ⟨d0, d1, d2, d3⟩ := AT.out _ q6
          rw [hm] at d2
          clear hm FI c0 c1 c2 c3
          go_wp2_with fail
          go_quiet (fail)
          go_wp2
          go_roundw
          case rel => exact ⟨i + 1, true, by omega, by go_num, rfl, q6.drewN _, HN2⟩
          case measure => simp [intOf]; omega
        case false =>
         by_cases hid : x.id = id
         · have hid' : ((x.id : Int) == (id : Int)) = true := by simp [hid]
           have HN2 : Hid (true = (L.take (i + 1)).any (fun x => decide (x.id = id))) := Lib.hid (by rw [HN.out]; simp [hid])
           clear HN HT hid
           go_wp2_with fail
           refine (FI.out).mono ?_
           rintro e w5 ⟨rfl, q5⟩
           have q6 := (qr.trans q5).alloc (.cells #[.int .u64 (x.id : Nat), .string x.data, .bool true, .int .i64 x.tm] 25)
           obtain ⟨d0, d1, d2, d3⟩ := AT.out _ q6
           rw [hm] at d2
           clear hm FI c0 c1 c2 c3
           go_wp2_with fail
           go_quiet (fail)
           go_wp2
           go_roundw
           case rel => exact ⟨i + 1, true, by omega, by go_num, rfl, q6.drewN _, HN2⟩
           case measure => simp [intOf]; omega
         · have hid' : ((x.id : Int) == (id : Int)) = false := by
             have : ¬ (x.id : Int) = (id : Int) := by omega
             simpa using this
           have HN2 : Hid (false = (L.take (i + 1)).any (fun x => decide (x.id = id))) := Lib.hid (by rw [HN.out]; simp [hid])
           clear HN HT hid
           go_wp2_with fail
           refine (FI.out).mono ?_
           rintro e w5 ⟨rfl, q5⟩
           have q6 := (qr.trans q5).alloc (.cells #[.int .u64 (x.id : Nat), .string x.data, .bool true, .int .i64 x.tm] 25)
           obtain ⟨d0, d1, d2, d3⟩ := AT.out _ q6
           rw [hm] at d2
           clear hm FI c0 c1 c2 c3
           go_wp2_with fail
           go_quiet (fail)
           go_wp2
           go_roundw
           case rel => exact ⟨i + 1, false, by omega, by go_num, rfl, q6.drewN _, HN2⟩
           case measure => simp [intOf]; omega
      case false =>
        have FI := FD.out x.id _ _ (T1.out.on qr)
        rw [hff] at FI
        simp only [findR, ver, hm, Bool.false_eq_true, if_false] at FI
        obtain ⟨c0, c1, c2, c3⟩ := AT.out _ qr
        rw [hm] at c2
        have FI := Lib.hid FI
        cases th
        case true =>
          have HN2 : Hid (true = (L.take (i + 1)).any (fun x => decide (x.id = id))) := Lib.hid (by rw [HN.out]; simp)
          clear HN HT
          go_wp2_with fail
          refine (FI.out).mono ?_
          rintro e w5 ⟨rfl, q5⟩
          have q6 := (qr.trans q5).alloc (.cells #[.int .u64 (x.id : Nat), .string x.data, .bool false, .int .i64 x.tm] 25)
          obtain ⟨d0, d1, d2, d3⟩ := AT.out _ q6
          rw [hm] at d2
          clear hm FI c0 c1 c2 c3
          go_wp2_with fail
          go_quiet (fail)
          go_wp2
          go_roundw
          case rel => exact ⟨i + 1, true, by omega, by go_num, rfl, q6.drewN _, HN2⟩
          case measure => simp [intOf]; omega
        case false =>
         by_cases hid : x.id = id
         · have hid' : ((x.id : Int) == (id : Int)) = true := by simp [hid]
           have HN2 : Hid (true = (L.take (i + 1)).any (fun x => decide (x.id = id))) := Lib.hid (by rw [HN.out]; simp [hid])
           clear HN HT hid
           go_wp2_with fail
           refine (FI.out).mono ?_
           rintro e w5 ⟨rfl, q5⟩
           have q6 := (qr.trans q5).alloc (.cells #[.int .u64 (x.id : Nat), .string x.data, .bool false, .int .i64 x.tm] 25)
           obtain ⟨d0, d1, d2, d3⟩ := AT.out _ q6
           rw [hm] at d2
           clear hm FI c0 c1 c2 c3
           go_wp2_with fail
           go_quiet (fail)
           go_wp2
           go_roundw
           case rel => exact ⟨i + 1, true, by omega, by go_num, rfl, q6.drewN _, HN2⟩
           case measure => simp [intOf]; omega
         · have hid' : ((x.id : Int) == (id : Int)) = false := by
             have : ¬ (x.id : Int) = (id : Int) := by omega
             simpa using this
           have HN2 : Hid (false = (L.take (i + 1)).any (fun x => decide (x.id = id))) := Lib.hid (by rw [HN.out]; simp [hid])
           clear HN HT hid
           go_wp2_with fail
           refine (FI.out).mono ?_
           rintro e w5 ⟨rfl, q5⟩
           have q6 := (qr.trans q5).alloc (.cells #[.int .u64 (x.id : Nat), .string x.data, .bool false, .int .i64 x.tm] 25)
           obtain ⟨d0, d1, d2, d3⟩ := AT.out _ q6
           rw [hm] at d2
           clear hm FI c0 c1 c2 c3
           go_wp2_with fail
           go_quiet (fail)
           go_wp2
           go_roundw
           case rel => exact ⟨i + 1, false, by omega, by go_num, rfl, q6.drewN _, HN2⟩
           case measure => simp [intOf]; omega
    · have HT2 : Hid (th = L.any (fun x => decide (x.id = id))) := Lib.hid (by have := HT.out; rw [List.take_of_length_le (by omega)] at this; exact this)
      obtain rfl : i = L.length := by omega
      clear HT
      cases hf : findV L id
      case none =>
        obtain rfl : th = false := by rw [HT2.out, find_any_no hf]
        rcases nil_or L with hl | ⟨y, m, hl⟩
        ·
          subst hl
          clear AP HC HT2 hil
          simp only [List.length_nil] at T1 GT FD ⊢
          have GI := GT.out _ _ (T1.out.on qr)
          have hh : ([] : List Ver).head? = none := rfl
          rw [hh] at GI
          simp only [findR, zeroV] at GI
          have GI := Lib.hid GI
          clear GT hh
          go_wp2_with fail
          refine (GI.out).mono ?_
          rintro e w5 ⟨rfl, q5⟩
          have q6 := (qr.trans q5).alloc (.cells #[.int .u64 0, .string ⟨#[]⟩, .bool false, .int .i64 0] 25)
          go_wp2_with fail
          go_quiet (fail)
          have q7 := q6.drewN nq
          have FI := FD.out id _ _ (T1.out.on q7)
          rw [hf] at FI
          simp only [findR, zeroV] at FI
          have FI := Lib.hid FI
          clear hf FD
          go_wp2_with fail
          refine (FI.out).mono ?_
          rintro e w6 ⟨rfl, q8⟩
          have q9 := (q7.trans q8).alloc (.cells #[.int .u64 0, .string ⟨#[]⟩, .bool false, .int .i64 0] 25)
          go_wp2_with fail
          refine (awake_any _).mono ?_
          rintro e w7 ⟨rfl, q10⟩
          go_wp2
          go_ret
          exact ⟨rfl, q1.trans (q9.trans q10)⟩
        ·
          have GI := GT.out _ _ (T1.out.on qr)
          have hh : L.head? = some y := by rw [hl]; rfl
          rw [hh] at GI
          simp only [findR, ver] at GI
          obtain ⟨ge, hge⟩ : ∃ z : Int, z = (if y.mark = true then 13 else 0) := ⟨_, rfl⟩
          rw [← hge] at GI
          have GI := Lib.hid GI
          have hl0 : 0 < L.length := by rw [hl]; simp
          have hl1 : (0 : Int) < (L.length : Int) := by omega
          have hld : decide (0 < L.length) = true := decide_eq_true hl0
          have hl2 : ((L.length : Int) == 0) = false := by
            have : ¬ (L.length : Int) = 0 := by omega
            simpa using this
          obtain ⟨a, rfl, ha, hat⟩ := HC.out 0 hl0
          rw [Nat.zero_mul, show a.add 0 = a by cases a; simp [Addr.add]] at hat
          have hy : L[0] = y := by simp [hl]
          rw [hy] at hat
          have AT : Hid (∀ b, Q w1 b → At b a y) := Lib.hid (fun b q => hat.keep ha fun _ hp => q.cell hp)
          clear hat hy hge
          clear GT HC AP hl hh
          go_wp2_with fail
          refine (GI.out).mono ?_
          rintro e w5 ⟨rfl, q5⟩
          have q6 := (qr.trans q5).alloc (.cells #[.int .u64 (y.id : Nat), .string y.data, .bool y.mark, .int .i64 y.tm] 25)
          obtain ⟨d0, d1, d2, d3⟩ := AT.out _ q6
          go_wp2_with fail
          go_quiet (fail)
          have q7 := q6.drewN nq
          have FI := FD.out id _ _ (T1.out.on q7)
          rw [hf] at FI
          simp only [findR, zeroV] at FI
          have FI := Lib.hid FI
          clear hf FD
          go_wp2_with fail
          refine (FI.out).mono ?_
          rintro e w6 ⟨rfl, q8⟩
          have q9 := (q7.trans q8).alloc (.cells #[.int .u64 0, .string ⟨#[]⟩, .bool false, .int .i64 0] 25)
          go_wp2_with fail
          refine (awake_any _).mono ?_
          rintro e w7 ⟨rfl, q10⟩
          go_wp2
          go_ret
          exact ⟨rfl, q1.trans (q9.trans q10)⟩
      case some z =>
        obtain rfl : th = true := by rw [HT2.out, find_any_yes hf]
        rcases nil_or L with hl | ⟨y, m, hl⟩
        · rw [hl] at hf; simp [findV] at hf
        · cases hm : z.mark
          case true =>
            have GI := GT.out _ _ (T1.out.on qr)
            have hh : L.head? = some y := by rw [hl]; rfl
            rw [hh] at GI
            simp only [findR, ver] at GI
            obtain ⟨ge, hge⟩ : ∃ z : Int, z = (if y.mark = true then 13 else 0) := ⟨_, rfl⟩
            rw [← hge] at GI
            have GI := Lib.hid GI
            have hl0 : 0 < L.length := by rw [hl]; simp
            have hl1 : (0 : Int) < (L.length : Int) := by omega
            have hld : decide (0 < L.length) = true := decide_eq_true hl0
            have hl2 : ((L.length : Int) == 0) = false := by
              have : ¬ (L.length : Int) = 0 := by omega
              simpa using this
            obtain ⟨a, rfl, ha, hat⟩ := HC.out 0 hl0
            rw [Nat.zero_mul, show a.add 0 = a by cases a; simp [Addr.add]] at hat
            have hy : L[0] = y := by simp [hl]
            rw [hy] at hat
            have AT : Hid (∀ b, Q w1 b → At b a y) := Lib.hid (fun b q => hat.keep ha fun _ hp => q.cell hp)
            clear hat hy hge
            clear GT HC AP hl hh
            go_wp2_with fail
            refine (GI.out).mono ?_
            rintro e w5 ⟨rfl, q5⟩
            have q6 := (qr.trans q5).alloc (.cells #[.int .u64 (y.id : Nat), .string y.data, .bool y.mark, .int .i64 y.tm] 25)
            obtain ⟨d0, d1, d2, d3⟩ := AT.out _ q6
            go_wp2_with fail
            go_quiet (fail)
            have q7 := q6.drewN nq
            have FI := FD.out id _ _ (T1.out.on q7)
            rw [hf] at FI
            simp only [findR, ver, hm, if_true] at FI
            have FI := Lib.hid FI
            clear hf FD hm
            go_wp2_with fail
            refine (FI.out).mono ?_
            rintro e w6 ⟨rfl, q8⟩
            have q9 := (q7.trans q8).alloc (.cells #[.int .u64 (z.id : Nat), .string z.data, .bool true, .int .i64 z.tm] 25)
            go_wp2_with fail
            refine (awake_any _).mono ?_
            rintro e w7 ⟨rfl, q10⟩
            go_wp2
            go_ret
            exact ⟨rfl, q1.trans (q9.trans q10)⟩
          case false =>
            have GI := GT.out _ _ (T1.out.on qr)
            have hh : L.head? = some y := by rw [hl]; rfl
            rw [hh] at GI
            simp only [findR, ver] at GI
            obtain ⟨ge, hge⟩ : ∃ z : Int, z = (if y.mark = true then 13 else 0) := ⟨_, rfl⟩
            rw [← hge] at GI
            have GI := Lib.hid GI
            have hl0 : 0 < L.length := by rw [hl]; simp
            have hl1 : (0 : Int) < (L.length : Int) := by omega
            have hld : decide (0 < L.length) = true := decide_eq_true hl0
            have hl2 : ((L.length : Int) == 0) = false := by
              have : ¬ (L.length : Int) = 0 := by omega
              simpa using this
            obtain ⟨a, rfl, ha, hat⟩ := HC.out 0 hl0
            rw [Nat.zero_mul, show a.add 0 = a by cases a; simp [Addr.add]] at hat
            have hy : L[0] = y := by simp [hl]
            rw [hy] at hat
            have AT : Hid (∀ b, Q w1 b → At b a y) := Lib.hid (fun b q => hat.keep ha fun _ hp => q.cell hp)
            clear hat hy hge
            clear GT HC AP hl hh
            go_wp2_with fail
            refine (GI.out).mono ?_
            rintro e w5 ⟨rfl, q5⟩
            have q6 := (qr.trans q5).alloc (.cells #[.int .u64 (y.id : Nat), .string y.data, .bool y.mark, .int .i64 y.tm] 25)
            obtain ⟨d0, d1, d2, d3⟩ := AT.out _ q6
            go_wp2_with fail
            go_quiet (fail)
            have q7 := q6.drewN nq
            have FI := FD.out id _ _ (T1.out.on q7)
            rw [hf] at FI
            simp only [findR, ver, hm, Bool.false_eq_true, if_false] at FI
            have FI := Lib.hid FI
            clear hf FD hm
            go_wp2_with fail
            refine (FI.out).mono ?_
            rintro e w6 ⟨rfl, q8⟩
            have q9 := (q7.trans q8).alloc (.cells #[.int .u64 (z.id : Nat), .string z.data, .bool false, .int .i64 z.tm] 25)
            go_wp2_with fail
            refine (awake_any _).mono ?_
            rintro e w7 ⟨rfl, q10⟩
            go_wp2
            go_ret
            exact ⟨rfl, q1.trans (q9.trans q10)⟩
theorem walk (l : List Ver) (v : Value) (id : Int) (w : World) (t0 : Vers w w.heap.size v l) (z0 : l.length ≤ maxLen) (w1 : (Lit.int .u64 id).wf = true) :
    Calls Try.prog 8 #[v, .int .u64 id] w fun e w' => e = .returned (.bool true) ∧ Q w w' := by
  obtain ⟨n, rfl, -⟩ := wfu64 w1
  by_cases h : okP (fewV l)
  · exact walk_ok l v n w t0 z0 h
  · exact walk_no l v n w t0 z0 h

set_option maxRecDepth 100000 in
theorem lifted (os : Os) (started : os.Started) (H : Type) (enc : TypeId × Value → H) :
    ReturnsInHanded {} Try.checked os 8 .any (Rows.chainFirstSpec.pre6 enc Try.prog Try.f8 Rows.chainFirstRow.domain false) (Rows.chainFirstSpec.post enc Try.prog Try.f8 false true false false) := by
  refine returnsInHanded_of_change (C := Try.checked) own started (by kernel_rfl) Try.func8
    (ChangeSpec.witness6 (enc := enc) (C := Try.checked) false ⟨#[], #[.slice none 0 0, .int .u64 0], []⟩ 8 (by kernel_rfl) (by kernel_rfl) (by kernel_rfl) (by kernel_rfl)) ?_
  intro W base args ds gs before hval0 hW hcnd _
  have hval : ∀ (j : Nat) t v, Try.f8.params[j]? = some t → args[j]? = some v → Value.okWide Try.prog W .any base t v := hval0
  have hW' := hW
  obtain ⟨p, q, hA0, hV, rfl, hfz, hnd⟩ := hW
  have hA : DataW.TrodAll enc Try.prog W 0 (fun _ => true) true Try.f8.params.toList args.toList ds p := hA0
  rw [Try.params8] at hA hval
  obtain ⟨v0, vs0, d0, ds0, p0, q0, hargs, rfl, rfl, h0, r0⟩ := trodAll_cons hA
  obtain ⟨v1, vs1, d1, ds1, p1, q1, rfl, rfl, rfl, h1, r1⟩ := trodAll_cons r0
  obtain ⟨rfl, rfl, rfl⟩ := trodAll_nil r1
  obtain rfl : args = #[v0, v1] := by cases args; simp_all
  obtain ⟨rfl, rfl⟩ := trodVars_none hV
  clear hA0 hval0
  simp only [List.append_nil] at hW'
  have hlt : ∀ x ∈ p0 ++ p1, x.block < W.heap.size := fun x hx => by simpa using hW'.lt x (by simpa using hx)
  obtain ⟨l0, t0, z0⟩ := open_vers (hval 0 22 v0 rfl rfl) h0
  obtain ⟨a1, rfl, -, -, w1⟩ := open_int Try.underlying23 (hval 1 23 v1 rfl rfl) h1
  refine (walk l0 v0 a1 W t0 z0 w1).mono fun e W' ⟨he, bel⟩ => ?_
  subst he
  refine ⟨_, rfl, _, _, _, [], _, [], hW', trodAll_mk1 (shut_bool Try.underlying4 _), (trodAll_cons_mk (Below.trod laid (by kernel_rfl) (of_decide_eq_true (by kernel_rfl)) h0 bel (fun x hx => hlt x (by simp [hx]))) (trodAll_cons_mk (Below.trod laid (by kernel_rfl) (of_decide_eq_true (by kernel_rfl)) h1 bel (fun x hx => hlt x (by simp [hx]))) trodAll_mk0)), rfl, Below.frame bel _, fun h => by cases h⟩

theorem over : Rows.chainFirstRow.holds Try.pinned (OpenSpec.ofChange Rows.chainFirstSpec) :=
  OpenClaim.holds_of_wide 8 Try.f8 rfl rfl rfl rfl rfl rfl rfl ⟨rfl, rfl, rfl, rfl, rfl⟩ rfl rfl rfl rfl rfl (by kernel_rfl) Try.func8 (by kernel_rfl)
    (of_decide_eq_true (by kernel_rfl)) (by unfold Func.isWrapper; first | (rw [if_pos (by decide +kernel)]; kernel_rfl) | (rw [if_neg (by decide +kernel)]; exact ⟨rfl, rfl⟩))
    (fun os started H enc _ => lifted os started H enc)

theorem proved : Rows.ChainFirstSaid := over
#print axioms proved
end Go.Proofs.Ytflfhigldkdlmaa.chainFirst
