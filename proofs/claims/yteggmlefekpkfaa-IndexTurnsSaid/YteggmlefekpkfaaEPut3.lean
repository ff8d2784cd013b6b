/-
  Contract of Put of an index.
-/
import Derived.Test.YteggmlefekpkfaaEPut2
namespace Go.Proofs.Yteggmlefekpkfaa
open Go.ChangeShapes Go.WideShapes Go.ChangeAt Go.RowKit
set_option linter.unusedVariables false
set_option linter.unusedSimpArgs false

set_option maxHeartbeats 1000000 in
theorem putE_arg (l : List Ent) (key : ByteArray) (m : List Ver) (v vc : Value) (w : World) (hno : ¬ (okI l ∧ hasO 1 60 ko key = true ∧ okP m)) (hs : Small l) (hk : key.size ≤ 1000) (hm : m.length ≤ 1000) (ht : Ents w w.heap.size v l) (hc : Vers w w.heap.size vc m) :
    Calls Try.prog 12 #[v, .string key, vc] w fun e w' => e = .returned (.tuple #[.slice none 0 0, .int .i64 1]) ∧ Q w w' := by
  obtain ⟨R, hR⟩ := chkI_ex l
  obtain ⟨C, hC⟩ := chkP_ex m
  have M := Lib.hid (checkE_any l v w R hR hs ht)
  have K := Lib.hid fun d => key_any key d hk
  have CK : Hid (∀ d, Q w d → Calls Try.prog 29 #[vc] d fun e w' => e = .returned (.int .i64 (chkE C)) ∧ Q d w') := Lib.hid (fun d q => check_any m vc d C hC hm (hc.on q))
  obtain ⟨A, c, rfl⟩ := ht.form
  obtain ⟨Ac, cc, rfl⟩ := hc.form
  rcases hR with ⟨rfl, o1⟩ | ⟨rfl, o1⟩
  · rw [show chkE true = 0 from rfl] at M
    cases hk1 : hasO 1 60 ko key with
    | true =>
      rw [hk1] at K
      rcases hC with ⟨rfl, o2⟩ | ⟨rfl, o2⟩
      · exact absurd ⟨o1, hk1, o2⟩ hno
      · rw [show chkE false = 1 from rfl] at CK
        clear hno o1 o2 hk1 ht hc
        go_enter Try.func12, Try.ntmps12
        go_wp2_with fail
        refine (M.out).mono ?_
        rintro e w1 ⟨rfl, q1⟩
        go_wp2_with fail
        refine (K.out _).mono ?_
        rintro e w2 ⟨rfl, q2⟩
        have q12 := q1.trans q2
        go_wp2_with fail
        refine (CK.out _ q12).mono ?_
        rintro e w3 ⟨rfl, q3⟩
        go_wp2
        go_ret2
        exact ⟨rfl, q12.trans q3⟩
    | false =>
      rw [hk1] at K
      clear hno o1 hk1 ht hc
      go_enter Try.func12, Try.ntmps12
      go_wp2_with fail
      refine (M.out).mono ?_
      rintro e w1 ⟨rfl, q1⟩
      go_wp2_with fail
      refine (K.out _).mono ?_
      rintro e w2 ⟨rfl, q2⟩
      go_wp2
      go_ret2
      exact ⟨rfl, q1.trans q2⟩
  · rw [show chkE false = 1 from rfl] at M
    clear hno o1 ht hc
    go_enter Try.func12, Try.ntmps12
    go_wp2_with fail
    refine (M.out).mono ?_
    rintro e w1 ⟨rfl, q1⟩
    go_wp2
    go_ret2
    exact ⟨rfl, q1⟩
theorem oneK_len (key : ByteArray) (m : List Ver) : (oneK key m).length ≤ 1 := by unfold oneK; split <;> simp
theorem putE_mem {l : List Ent} {key : ByteArray} {m : List Ver} {e : Ent} (h : e ∈ putE l key m) : e ∈ l ∨ (e = ⟨key, m⟩ ∧ m ≠ []) := by
  rw [putE_one] at h
  rcases List.mem_append.1 h with h | h
  · rcases List.mem_append.1 h with h | h
    · exact .inl (List.mem_filter.1 h).1
    · right
      unfold oneK at h
      split at h
      · simp at h
      · rename_i k; exact ⟨by simpa using h, k⟩
  · exact .inl (List.mem_filter.1 h).1
set_option maxHeartbeats 8000000 in
set_option maxRecDepth 100000 in
theorem putE_laid (l : List Ent) (key : ByteArray) (m : List Ver) (v vc : Value) (w : World) (o1 : okI l) (o2 : hasO 1 60 ko key = true) (o3 : okP m) (hs : Small l) (hk : key.size ≤ 1000) (hm : m.length ≤ 1000) (ht : Ents w w.heap.size v l) (hc : Vers w w.heap.size vc m) :
    Calls Try.prog 12 #[v, .string key, vc] w fun e w' => ∃ v' L k, e = .returned (.tuple #[v', .int .i64 (k : Nat)]) ∧ ((60 < (putE l key m).length ∧ L = [] ∧ k = 6) ∨ ((putE l key m).length ≤ 60 ∧ L = putE l key m ∧ k = 0)) ∧ Ents w' w'.heap.size v' L ∧ Q w w' := by
  have M := Lib.hid (checkE_any l v w true (.inl ⟨rfl, o1⟩) hs ht)
  rw [show chkE true = 0 from rfl] at M
  have K := Lib.hid fun d => key_any key d hk
  rw [o2] at K
  have CK : Hid (∀ d, Q w d → Calls Try.prog 29 #[vc] d fun e w' => e = .returned (.int .i64 (chkE true)) ∧ Q d w') := Lib.hid (fun d q => check_any m vc d true (.inl ⟨rfl, o3⟩) hm (hc.on q))
  rw [show chkE true = 0 from rfl] at CK
  have hr := okI_rise o1
  have hl60 := o1.1
  have hl := hs.1
  have AT : Hid (∀ d, Q w d → Calls Try.prog 19 #[v, .string key] d fun e w' => e = .returned (.int .i64 (atE l key : Nat)) ∧ Q d w') := Lib.hid (fun d q => at_any l key v d hl (ht.on q))
  have PL : Hid (∀ d, Q w d → Calls Try.prog 30 #[v, .string key] d fun e w' => e = .returned (.int .i64 (idxL (hasK' key) l)) ∧ Q d w') := Lib.hid (fun d q => placeE_any l v key d hl (ht.on q))
  have EN : Hid (∀ d, Q w d → Calls Try.prog 32 #[.string key, vc] d fun e w' => ∃ v', e = .returned v' ∧ Ents w' w'.heap.size v' (oneK key m) ∧ Q d w') := Lib.hid (fun d q => entries_any key m vc d (by unfold maxLen; omega) hm (hc.on q))
  have CU : Hid (∀ hi d x, Q w d → atE l key ≤ hi → hi ≤ l.length → Ents d d.heap.size x (oneK key m) → Calls Try.prog 31 #[v, .int .i64 (atE l key : Nat), .int .i64 (hi : Nat), x] d fun e w' => ∃ v', e = .returned v' ∧ Ents w' w'.heap.size v' (l.take (atE l key) ++ oneK key m ++ l.drop hi) ∧ Q d w') := Lib.hid (fun hi d x q h1 h2 hx => cut_any l _ (atE l key) hi v x d hl (by have := oneK_len key m; omega) h1 h2 hx (ht.on q))
  have HA : Hid (∀ v' d, Ents d d.heap.size v' (putE l key m) → (putE l key m).length ≤ 1000 → Calls Try.prog 33 #[v'] d fun e w' => ∃ v'', e = .returned v'' ∧ Ents w' w'.heap.size v'' (putE l key m) ∧ Q d w') := Lib.hid (fun v' d h hl' => apart_any _ v' d hl' (fun e he => by
    rcases putE_mem he with h | ⟨rfl, -⟩
    · exact (hs.2 e h).2.1
    · exact hm) h)
  have hle := atE_le l key
  have HTK := Lib.hid (take_at hr key)
  have hplen : (putE l key m).length ≤ 1000 := by
    rw [putE_one, List.length_append, List.length_append]
    have h1 := (rise_parts l hr key).1
    have := congrArg List.length h1
    rw [List.length_append, List.length_append] at this
    have := oneK_len key m
    omega
  obtain ⟨A, c, rfl⟩ := ht.form
  obtain ⟨Ac, cc, rfl⟩ := hc.form
  rcases where_key l key with ⟨e, hk'⟩ | ⟨i, hlt, e, hk', -⟩
  · rw [e] at PL
    have HV : Hid (l.take (atE l key) ++ oneK key m ++ l.drop (atE l key) = putE l key m) := Lib.hid (by rw [putE_one, HTK.out, drop_at hr hk'])
    obtain ⟨F, hF⟩ : ∃ F, atE l key = F := ⟨_, rfl⟩
    rw [hF] at AT CU HV hle
    clear o1 o2 o3 hs ht hc hr hl60 hk' e hF HTK
    go_enter Try.func12, Try.ntmps12
    go_wp2_with fail
    refine (M.out).mono ?_
    rintro e w1 ⟨rfl, q1⟩
    go_wp2_with fail
    refine (K.out _).mono ?_
    rintro e w2 ⟨rfl, q2⟩
    have q12 := q1.trans q2
    go_wp2_with fail
    refine (CK.out _ q12).mono ?_
    rintro e w3 ⟨rfl, q3⟩
    have q13 := q12.trans q3
    clear q1 q2 q12 q3 M K CK
    go_wp2_with fail
    refine (AT.out _ q13).mono ?_
    rintro e w4 ⟨rfl, q4⟩
    have q14 := q13.trans q4
    go_wp2_with fail
    refine (PL.out _ q14).mono ?_
    rintro e w5 ⟨rfl, q5⟩
    have q15 := q14.trans q5
    clear q13 q4 q14 q5 AT PL
    go_wp2_with fail
    refine (EN.out _ q15).mono ?_
    rintro e w6 ⟨x6, rfl, e6, q6⟩
    have q16 := q15.trans q6
    clear q15 q6 EN
    go_wp2_with fail
    refine (CU.out F _ _ q16 (Nat.le_refl _) hle e6).mono ?_
    rintro e w7 ⟨v7, rfl, e7, q7⟩
    rw [HV.out] at e7
    have q17 := q16.trans q7
    clear q16 q7 CU e6
    obtain ⟨A7, c7, rfl⟩ := e7.form
    have CA := Lib.hid (HA.out _ _ e7 hplen)
    clear HA e7 HV
    by_cases h60 : (putE l key m).length ≤ 60
    · obtain ⟨n, hn⟩ : ∃ n, (putE l key m).length = n := ⟨_, rfl⟩
      have HN := Lib.hid hn
      rw [hn] at CA h60
      have h60' : ¬ (60 : Int) < (n : Int) := by omega
      rw [hn]
      clear hn hplen
      go_wp2_with fail
      refine (CA.out).mono ?_
      rintro e w8 ⟨v8, rfl, e8, q8⟩
      have q18 := q17.trans q8
      go_wp2
      go_ret2
      refine ⟨_, putE l key m, _, rfl, .inr ⟨?_, rfl, rfl⟩, e8, q18⟩
      first | (rw [HN.out]; exact h60) | exact h60 | (have := HN.out; omega)
    · obtain ⟨n, hn⟩ : ∃ n, (putE l key m).length = n := ⟨_, rfl⟩
      have HN := Lib.hid hn
      rw [hn] at CA h60
      have h60' : (60 : Int) < (n : Int) := by omega
      rw [hn]
      clear hn hplen
      go_wp2
      go_ret2
      refine ⟨_, _, _, rfl, .inl ⟨?_, rfl, rfl⟩, Ents.nil _ _, q17⟩
      first | (rw [HN.out]; omega) | omega | (have := HN.out; omega)
  · obtain ⟨hdr, hle2⟩ := drop_at' hr hlt hk'
    have HV : Hid (l.take (atE l key) ++ oneK key m ++ l.drop (atE l key + 1) = putE l key m) := Lib.hid (by rw [putE_one, HTK.out, hdr])
    obtain ⟨F, hF⟩ : ∃ F, atE l key = F := ⟨_, rfl⟩
    rw [hF] at AT CU HV hle hle2
    rw [e] at PL
    have hi0 : (0 : Int) ≤ (i : Int) := by omega
    have hw1 : IntKind.i64.wrap ((F : Int) + 1) = ((F + 1 : Nat) : Int) := by rw [IntKind.wrap_i64]; omega
    clear o1 o2 o3 hs ht hc hr hl60 hk' e hF HTK hdr
    go_enter Try.func12, Try.ntmps12
    go_wp2_with fail
    refine (M.out).mono ?_
    rintro e w1 ⟨rfl, q1⟩
    go_wp2_with fail
    refine (K.out _).mono ?_
    rintro e w2 ⟨rfl, q2⟩
    have q12 := q1.trans q2
    go_wp2_with fail
    refine (CK.out _ q12).mono ?_
    rintro e w3 ⟨rfl, q3⟩
    have q13 := q12.trans q3
    clear q1 q2 q12 q3 M K CK
    go_wp2_with fail
    refine (AT.out _ q13).mono ?_
    rintro e w4 ⟨rfl, q4⟩
    have q14 := q13.trans q4
    go_wp2_with fail
    refine (PL.out _ q14).mono ?_
    rintro e w5 ⟨rfl, q5⟩
    have q15 := q14.trans q5
    clear q13 q4 q14 q5 AT PL
    go_wp2_with fail
    refine (EN.out _ q15).mono ?_
    rintro e w6 ⟨x6, rfl, e6, q6⟩
    have q16 := q15.trans q6
    clear q15 q6 EN
    go_wp2_with fail
    have CU1 := CU.out (F + 1) _ _ q16 (by omega) hle2 e6
    (try rw [Int.natCast_add] at CU1)
    refine CU1.mono ?_
    clear CU1
    rintro e w7 ⟨v7, rfl, e7, q7⟩
    rw [HV.out] at e7
    have q17 := q16.trans q7
    clear q16 q7 CU e6
    obtain ⟨A7, c7, rfl⟩ := e7.form
    have CA := Lib.hid (HA.out _ _ e7 hplen)
    clear HA e7 HV
    by_cases h60 : (putE l key m).length ≤ 60
    · obtain ⟨n, hn⟩ : ∃ n, (putE l key m).length = n := ⟨_, rfl⟩
      have HN := Lib.hid hn
      rw [hn] at CA h60
      have h60' : ¬ (60 : Int) < (n : Int) := by omega
      rw [hn]
      clear hn hplen
      go_wp2_with fail
      refine (CA.out).mono ?_
      rintro e w8 ⟨v8, rfl, e8, q8⟩
      have q18 := q17.trans q8
      go_wp2
      go_ret2
      refine ⟨_, putE l key m, _, rfl, .inr ⟨?_, rfl, rfl⟩, e8, q18⟩
      first | (rw [HN.out]; exact h60) | exact h60 | (have := HN.out; omega)
    · obtain ⟨n, hn⟩ : ∃ n, (putE l key m).length = n := ⟨_, rfl⟩
      have HN := Lib.hid hn
      rw [hn] at CA h60
      have h60' : (60 : Int) < (n : Int) := by omega
      rw [hn]
      clear hn hplen
      go_wp2
      go_ret2
      refine ⟨_, _, _, rfl, .inl ⟨?_, rfl, rfl⟩, Ents.nil _ _, q17⟩
      first | (rw [HN.out]; omega) | omega | (have := HN.out; omega)
end Go.Proofs.Yteggmlefekpkfaa
