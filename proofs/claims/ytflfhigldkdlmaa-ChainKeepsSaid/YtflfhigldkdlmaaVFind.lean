/-
  Contracts of the document's Drop and Find.
-/
import Derived.Test.YtflfhigldkdlmaaVCheck
namespace Go.Proofs.Ytflfhigldkdlmaa
open Go.ChangeShapes Go.WideShapes Go.ChangeAt Go.RowKit
set_option linter.unusedVariables false

theorem rdrop_arg (l : List Ver) (v : Value) (id : Nat) (w : World) (hR : chkP l false) (hl : l.length ≤ 1000) (ht : Vers w w.heap.size v l) :
    Calls Try.prog 21 #[v, .int .u64 (id : Nat)] w fun e w' => e = .returned (.tuple #[.slice none 0 0, .int .i64 1]) ∧ Q w w' := by
  have C := Lib.hid (rcheck_any l v w false hR hl ht)
  go_enter Try.func21, Try.ntmps21
  go_wp2_with fail
  refine (C.out).mono ?_
  rintro e w1 ⟨rfl, q1⟩
  go_wp2
  go_ret2
  exact ⟨rfl, q1⟩
theorem own_len {base : Nat} {w : World} {v : Value} {l : List Ver} (h : OwnV base w v l) : ∃ A c, v = .slice A l.length c := by
  rcases h.2 with ⟨rfl, h0⟩ | ⟨g, cap, cur, rfl, -⟩
  · exact ⟨none, 0, by rw [h0]⟩
  · exact ⟨_, _, rfl⟩
set_option maxHeartbeats 1000000 in
theorem rdrop_none (l : List Ver) (v : Value) (id : Nat) (w : World) (hR : chkP l true) (hn : (woV l id).length = l.length) (hl : l.length ≤ 1000) (ht : Vers w w.heap.size v l) :
    Calls Try.prog 21 #[v, .int .u64 (id : Nat)] w fun e w' => e = .returned (.tuple #[.slice none 0 0, .int .i64 4]) ∧ Q w w' := by
  have C := Lib.hid (rcheck_any l v w true hR hl ht)
  have HW : Hid (∀ b, Q w b → Calls Try.prog 31 #[v, .int .u64 (id : Nat)] b fun e w' => ∃ v', e = .returned v' ∧ OwnV b.heap.size w' v' (woV l id) ∧ Q b w') := Lib.hid (fun b q => rwithout_any l v id b hl (ht.on q))
  have HN := Lib.hid hn
  obtain ⟨A, c, rfl, -⟩ := ht
  clear hn hR
  go_enter Try.func21, Try.ntmps21
  go_wp2_with fail
  refine (C.out).mono ?_
  rintro e w1 ⟨rfl, q1⟩
  go_wp2_with fail
  refine (HW.out _ q1).mono ?_
  rintro e w2 ⟨v', rfl, ho, q2⟩
  obtain ⟨A', c', rfl⟩ := own_len ho
  rw [HN.out]
  go_wp2
  go_ret2
  exact ⟨rfl, q1.trans q2⟩
set_option maxHeartbeats 1000000 in
theorem rdrop_yes (l : List Ver) (v : Value) (id : Nat) (w : World) (hR : chkP l true) (hn : (woV l id).length ≠ l.length) (hl : l.length ≤ 1000) (ht : Vers w w.heap.size v l) :
    Calls Try.prog 21 #[v, .int .u64 (id : Nat)] w fun e w' => ∃ v', e = .returned (.tuple #[v', .int .i64 0]) ∧ OwnV w.heap.size w' v' (woV l id) ∧ Q w w' := by
  have C := Lib.hid (rcheck_any l v w true hR hl ht)
  have HW : Hid (∀ b, Q w b → Calls Try.prog 31 #[v, .int .u64 (id : Nat)] b fun e w' => ∃ v', e = .returned v' ∧ OwnV b.heap.size w' v' (woV l id) ∧ Q b w') := Lib.hid (fun b q => rwithout_any l v id b hl (ht.on q))
  have hn' : (((woV l id).length : Int) == (l.length : Int)) = false := by
    have : ¬ ((woV l id).length : Int) = (l.length : Int) := by omega
    simpa using this
  obtain ⟨A, c, rfl, -⟩ := ht
  clear hn hR
  go_enter Try.func21, Try.ntmps21
  go_wp2_with fail
  refine (C.out).mono ?_
  rintro e w1 ⟨rfl, q1⟩
  go_wp2_with fail
  refine (HW.out _ q1).mono ?_
  rintro e w2 ⟨v', rfl, ho, q2⟩
  have HO := Lib.hid ho
  obtain ⟨A', c', rfl⟩ := own_len ho
  clear ho
  go_wp2
  go_ret2
  refine ⟨_, rfl, ?_, q1.trans q2⟩
  obtain ⟨o1, o2⟩ := HO.out
  refine ⟨o1, ?_⟩
  rcases o2 with h | ⟨g, cap, cur, e, hb, r⟩
  · exact .inl h
  · exact .inr ⟨g, cap, cur, e, Nat.le_trans q1.size hb, r⟩

/-- What Find tells. -/
def zeroV : Value := .agg #[.int .u64 0, .string ⟨#[]⟩, .bool false, .int .i64 0]
def findV (l : List Ver) (id : Nat) : Option Ver := l.find? fun x => decide (x.id = id)
theorem find_at {l : List Ver} {id i : Nat} (h : ∀ j (hj : j < i) (hl : j < l.length), l[j].id ≠ id) (hi : i < l.length) (k : l[i].id = id) : findV l id = some l[i] := by
  induction l generalizing i with
  | nil => simp at hi
  | cons x r ih =>
    cases i with
    | zero => rw [findV, List.find?_cons_of_pos (by simpa using k)]; rfl
    | succ i =>
      have h0 := h 0 (by omega) (by simp)
      rw [findV, List.find?_cons_of_neg (by simpa using h0)]
      exact ih (fun j hj hl => h (j + 1) (by omega) (by simpa using hl)) (by simpa using hi) k
theorem find_none {l : List Ver} {id : Nat} (h : ∀ j (hl : j < l.length), l[j].id ≠ id) : findV l id = none := by
  rw [findV, List.find?_eq_none]
  intro x hx
  obtain ⟨j, hj, rfl⟩ := List.getElem_of_mem hx
  simpa using h j hj
def findR (o : Option Ver) : Value := match o with
  | some x => .tuple #[ver x, .int .i64 (if x.mark then 13 else 0)]
  | none => .tuple #[zeroV, .int .i64 4]
/-- The cells of a version that a call has made ahead. -/
theorem zero_of {w w1 : World} (q : Q (w.alloc (.cells #[.int .u64 0, .string ⟨#[]⟩, .bool false, .int .i64 0] 25)) w1) :
    w1.cell? ⟨w.heap.size, 0, none⟩ = some (.int .u64 0) ∧ w1.cell? ⟨w.heap.size, 1, none⟩ = some (.string ⟨#[]⟩) ∧ w1.cell? ⟨w.heap.size, 2, none⟩ = some (.bool false) ∧ w1.cell? ⟨w.heap.size, 3, none⟩ = some (.int .i64 0) ∧
    w1.frozen? ⟨w.heap.size, 0, none⟩ = false ∧ w1.frozen? ⟨w.heap.size, 1, none⟩ = false ∧ w1.frozen? ⟨w.heap.size, 2, none⟩ = false ∧ w1.frozen? ⟨w.heap.size, 3, none⟩ = false := by
  have c : ∀ k, w1.cell? ⟨w.heap.size, k, none⟩ = (w.alloc (.cells #[.int .u64 0, .string ⟨#[]⟩, .bool false, .int .i64 0] 25)).cell? ⟨w.heap.size, k, none⟩ := fun k => Below.cell q (p := ⟨w.heap.size, k, none⟩) (by simp)
  have f : ∀ k, w1.frozen? ⟨w.heap.size, k, none⟩ = (w.alloc (.cells #[.int .u64 0, .string ⟨#[]⟩, .bool false, .int .i64 0] 25)).frozen? ⟨w.heap.size, k, none⟩ := fun k => Below.frozen q (p := ⟨w.heap.size, k, none⟩) (by simp)
  refine ⟨(c 0).trans ?_, (c 1).trans ?_, (c 2).trans ?_, (c 3).trans ?_, (f 0).trans ?_, (f 1).trans ?_, (f 2).trans ?_, (f 3).trans ?_⟩ <;> simp [go_sem]
set_option maxHeartbeats 2000000 in
theorem rfind_arg (l : List Ver) (v : Value) (id : Nat) (w : World) (hR : chkP l false) (hl : l.length ≤ 1000) (ht : Vers w w.heap.size v l) :
    Calls Try.prog 25 #[v, .int .u64 (id : Nat)] w fun e w' => e = .returned (.tuple #[zeroV, .int .i64 1]) ∧ Q w w' := by
  have C : Hid (∀ o, Calls Try.prog 18 #[v] (w.alloc o) fun e w' => e = .returned (.bool false) ∧ Q (w.alloc o) w') := Lib.hid (fun o => rcheck_any l v (w.alloc o) false hR hl (ht.on ((Q.refl w).alloc o)))
  go_enter Try.func25, Try.ntmps25
  go_wp2_with fail
  refine (C.out _).mono ?_
  rintro e w1 ⟨rfl, q1⟩
  obtain ⟨z0, z1, z2, z3, f0, f1, f2, f3⟩ := zero_of q1
  have q := ((Q.refl w).alloc _).trans q1
  go_wp2
  (try simp only [Exit.inBlock, Exit.then])
  refine bodyPost_ret (v := .tuple #[.agg #[.int .u64 0, .string ⟨#[]⟩, .bool false, .int .i64 0], .int .i64 1]) ?_ rfl ?_
  · rw [results_cell_tmp rfl]
    go_simp
  · exact ⟨rfl, Q.set (Q.set (Q.set (Q.set q (Nat.le_refl _) _) (Nat.le_refl _) _) (Nat.le_refl _) _) (Nat.le_refl _) _⟩
set_option maxHeartbeats 4000000 in
theorem rfind_any (l : List Ver) (v : Value) (id : Nat) (w : World) (hR : chkP l true) (hl : l.length ≤ 1000) (ht : Vers w w.heap.size v l) :
    Calls Try.prog 25 #[v, .int .u64 (id : Nat)] w fun e w' => e = .returned (findR (findV l id)) ∧ Q w w' := by
  have C : Hid (∀ o, Calls Try.prog 18 #[v] (w.alloc o) fun e w' => e = .returned (.bool true) ∧ Q (w.alloc o) w') := Lib.hid (fun o => rcheck_any l v (w.alloc o) true hR hl (ht.on ((Q.refl w).alloc o)))
  obtain ⟨A, c, rfl, -, -, -, hcells⟩ := ht
  have HC := Lib.hid hcells
  clear hcells hR
  go_enter Try.func25, Try.ntmps25
  go_wp2_with fail
  refine (C.out _).mono ?_
  rintro e w1 ⟨rfl, q1⟩
  obtain ⟨z0, z1, z2, z3, f0, f1, f2, f3⟩ := zero_of q1
  have q := ((Q.refl w).alloc _).trans q1
  go_wp2_with fail
  go_loopw [6] (fun I wr => ∃ i : Nat, i ≤ l.length ∧ I = .int .i64 i ∧ wr = w1 ∧ Hid (∀ j (hj : j < i) (hl : j < l.length), l[j].id ≠ id)) (fun I _ => l.length - (intOf I).toNat)
  case atStart => exact ⟨0, Nat.zero_le _, rfl, rfl, Lib.hid (fun j h => by omega)⟩
  case round =>
    obtain ⟨i, hil, rfl, rfl, HK⟩ := hrel
    by_cases hlt : i < l.length
    · obtain ⟨a, rfl, ha, hat⟩ := HC.out i hlt
      obtain ⟨c0, c1, c2, c3⟩ := hat.keep (by rw [add_block]; exact ha) fun _ hp => q.cell hp
      clear hat
      by_cases hid : l[i].id = id
      · have HV := Lib.hid (find_at HK.out hlt hid)
        obtain ⟨x, hx⟩ : ∃ x, x = l[i] := ⟨_, rfl⟩
        rw [← hx] at c0 c1 c2 c3 HV
        have he : ((x.id : Int) == (id : Int)) = true := by rw [hx, hid]; simp
        clear hx hid
        have hab : (a.add (i * 4)).block ≠ w.heap.size := by rw [add_block]; omega
        cases hm : x.mark with
        | true =>
          rw [hm] at c2
          have HM := Lib.hid hm
          clear hm
          go_wp2
          (try simp only [Exit.inBlock, Exit.then])
          refine bodyPost_ret (v := .tuple #[.agg #[.int .u64 (x.id : Nat), .string x.data, .bool true, .int .i64 x.tm], .int .i64 13]) ?_ rfl ?_
          · rw [results_cell_tmp rfl]
            go_simp
          · exact ⟨by rw [HV.out]; simp [findR, ver, HM.out], Q.set (Q.set (Q.set (Q.set q (Nat.le_refl _) _) (Nat.le_refl _) _) (Nat.le_refl _) _) (Nat.le_refl _) _⟩
        | false =>
          rw [hm] at c2
          have HM := Lib.hid hm
          clear hm
          go_wp2
          (try simp only [Exit.inBlock, Exit.then])
          refine bodyPost_ret (v := .tuple #[.agg #[.int .u64 (x.id : Nat), .string x.data, .bool false, .int .i64 x.tm], .int .i64 0]) ?_ rfl ?_
          · rw [results_cell_tmp rfl]
            go_simp
          · exact ⟨by rw [HV.out]; simp [findR, ver, HM.out], Q.set (Q.set (Q.set (Q.set q (Nat.le_refl _) _) (Nat.le_refl _) _) (Nat.le_refl _) _) (Nat.le_refl _) _⟩
      · have HK2 : Hid (∀ j (hj : j < i + 1) (hl : j < l.length), l[j].id ≠ id) := Lib.hid (fun j hj hl => by
          by_cases e : j = i
          · subst e; exact hid
          · exact HK.out j (by omega) hl)
        obtain ⟨x, hx⟩ : ∃ x, x = l[i] := ⟨_, rfl⟩
        rw [← hx] at c0 c1 c2 c3
        have he : ((x.id : Int) == (id : Int)) = false := by
          rw [hx]
          have : ¬ ((l[i].id : Int) = (id : Int)) := by omega
          simpa using this
        clear hx hid
        go_wp2
        go_roundw
        case rel => exact ⟨i + 1, by omega, by go_num, by first | trivial | rfl, HK2⟩
        case measure => simp [intOf]; omega
    · have HV := Lib.hid (find_none (fun j hl => HK.out j (by omega) hl))
      go_wp2
      (try simp only [Exit.inBlock, Exit.then])
      refine bodyPost_ret (v := .tuple #[.agg #[.int .u64 0, .string ⟨#[]⟩, .bool false, .int .i64 0], .int .i64 4]) ?_ rfl ?_
      · rw [results_cell_tmp rfl]
        go_simp
      · exact ⟨by rw [HV.out]; rfl, Q.set (Q.set (Q.set (Q.set q (Nat.le_refl _) _) (Nat.le_refl _) _) (Nat.le_refl _) _) (Nat.le_refl _) _⟩
end Go.Proofs.Ytflfhigldkdlmaa
