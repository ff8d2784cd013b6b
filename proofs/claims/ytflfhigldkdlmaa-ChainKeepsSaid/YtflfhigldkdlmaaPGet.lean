/-
  Contracts of the program's Get and Find, and of the document's Get.
-/
import Derived.Test.YtflfhigldkdlmaaPFind
import Derived.Test.YtflfhigldkdlmaaVGet
namespace Go.Proofs.Ytflfhigldkdlmaa
open Go.ChangeShapes Go.WideShapes Go.ChangeAt Go.RowKit
set_option linter.unusedVariables false

/-- What is told of a version, or that there is none: its parts and the error's number. -/
theorem findR_parts (o : Option Ver) : ∃ (i : Nat) (d : ByteArray) (m : Bool) (t e : Int), findR o = .tuple #[.agg #[.int .u64 (i : Nat), .string d, .bool m, .int .i64 t], .int .i64 e] := by
  cases o with
  | none => exact ⟨0, ⟨#[]⟩, false, 0, 4, rfl⟩
  | some x => exact ⟨x.id, x.data, x.mark, x.tm, (if x.mark then 13 else 0), rfl⟩
set_option maxHeartbeats 2000000 in
theorem rget_yes (l : List Ver) (v : Value) (w : World) (h0 : 0 < l.length) (hR : okP l) (hl : l.length ≤ 1000) (ht : Vers w w.heap.size v l) :
    Calls Try.prog 23 #[v] w fun e w' => e = .returned (findR (some l[0])) ∧ Q w w' := by
  obtain ⟨x, hx⟩ : ∃ x, x = l[0] := ⟨_, rfl⟩
  have hf : findV l x.id = some x := by
    rw [hx]; exact find_at (i := 0) (fun j hj => by omega) h0 rfl
  rw [← hx]
  obtain ⟨fi, fd, fm, ft, fe, hfe⟩ := findR_parts (some x)
  have C : Hid (∀ o, Calls Try.prog 25 #[v, .int .u64 (x.id : Nat)] (w.alloc o) fun e w' => e = .returned (.tuple #[.agg #[.int .u64 (fi : Nat), .string fd, .bool fm, .int .i64 ft], .int .i64 fe]) ∧ Q (w.alloc o) w') := Lib.hid (fun o => by
    have := rfind_any l v x.id (w.alloc o) (.inl ⟨rfl, hR⟩) hl (ht.on ((Q.refl w).alloc o))
    rw [hf, hfe] at this
    exact this)
  have HE := Lib.hid hfe
  obtain ⟨A, c, rfl, -, -, -, hcells⟩ := ht
  obtain ⟨a, rfl, ha, hat⟩ := hcells 0 h0
  rw [Nat.zero_mul, show a.add 0 = a by cases a; simp [Addr.add], ← hx] at hat
  have AT : Hid (∀ o, At (w.alloc o) a x) := Lib.hid (fun o => hat.keep ha fun _ hp => Below.cell ((Q.refl w).alloc o) hp)
  obtain ⟨c0, c1, c2, c3⟩ := AT.out (.cells #[.int .u64 0, .string ⟨#[]⟩, .bool false, .int .i64 0] 25)
  have hp : ((l.length : Int) == 0) = false := by
    have : ¬ (l.length : Int) = 0 := by omega
    simpa using this
  have hp2 : (0 : Int) < (l.length : Int) := by omega
  clear hcells hat hx hR hf hfe AT
  go_enter Try.func23, Try.ntmps23
  go_wp2_with fail
  refine (C.out _).mono ?_
  rintro e w1 ⟨rfl, q1⟩
  obtain ⟨z0, z1, z2, z3, f0, f1, f2, f3⟩ := zero_of q1
  have q := ((Q.refl w).alloc _).trans q1
  clear c0 c1 c2 c3 hp hp2 h0
  go_wp2
  (try simp only [Exit.inBlock, Exit.then])
  refine bodyPost_ret (v := .tuple #[.agg #[.int .u64 (fi : Nat), .string fd, .bool fm, .int .i64 ft], .int .i64 fe]) ?_ rfl ?_
  · rw [results_cell_tmp rfl]
    go_simp
  · exact ⟨by rw [HE.out], Q.set (Q.set (Q.set (Q.set q (Nat.le_refl _) _) (Nat.le_refl _) _) (Nat.le_refl _) _) (Nat.le_refl _) _⟩

set_option maxHeartbeats 2000000 in
theorem get_arg (l : List Ver) (v : Value) (w : World) (hR : ¬ okP l) (hl : l.length ≤ 1000) (ht : Vers w w.heap.size v l) :
    Calls Try.prog 22 #[v] w fun e w' => e = .returned (.tuple #[zeroV, .int .i64 1]) ∧ Q w w' := by
  have C : Hid (∀ o, Calls Try.prog 17 #[v] (w.alloc o) fun e w' => e = .returned (.int .i64 1) ∧ Q (w.alloc o) w') := Lib.hid (fun o => check_bad l v (w.alloc o) hR hl (ht.on ((Q.refl w).alloc o)))
  go_enter Try.func22, Try.ntmps22
  go_wp2_with fail
  refine (C.out _).mono ?_
  rintro e w1 ⟨rfl, q1⟩
  obtain ⟨z0, z1, z2, z3, f0, f1, f2, f3⟩ := zero_of q1
  have q := ((Q.refl w).alloc _).trans q1
  go_wp2
  (try simp only [Exit.inBlock, Exit.then])
  refine bodyPost_ret (v := .tuple #[.agg #[.int .u64 0, .string ⟨#[]⟩, .bool false, .int .i64 0], .int .i64 1]) ?_ rfl ?_
  · rw [results_cell_tmp rfl]
    go_simp
  · exact ⟨rfl, Q.set (Q.set (Q.set (Q.set q (Nat.le_refl _) _) (Nat.le_refl _) _) (Nat.le_refl _) _) (Nat.le_refl _) _⟩
set_option maxHeartbeats 2000000 in
theorem get_any (l : List Ver) (v : Value) (w : World) (hR : okP l) (hl : l.length ≤ 1000) (ht : Vers w w.heap.size v l) :
    Calls Try.prog 22 #[v] w fun e w' => e = .returned (findR l.head?) ∧ Q w w' := by
  have C : Hid (∀ o, Calls Try.prog 17 #[v] (w.alloc o) fun e w' => e = .returned (.int .i64 0) ∧ Q (w.alloc o) w') := Lib.hid (fun o => check_ok l v (w.alloc o) hR hl (ht.on ((Q.refl w).alloc o)))
  obtain ⟨fi, fd, fm, ft, fe, hfe⟩ := findR_parts l.head?
  have T : Hid (∀ b, Q w b → Calls Try.prog 35 #[v, .int .i64 0] b fun e w' => e = .returned (.tuple #[.agg #[.int .u64 (fi : Nat), .string fd, .bool fm, .int .i64 ft], .int .i64 fe]) ∧ Q b w') := Lib.hid (fun b q => by
    rw [← hfe]
    cases l with
    | nil => exact told_nil v b (ht.on q)
    | cons x r => exact told_at (x :: r) v 0 b (by simp) hl (ht.on q))
  have HE := Lib.hid hfe
  clear hfe hR ht
  go_enter Try.func22, Try.ntmps22
  go_wp2_with fail
  refine (C.out _).mono ?_
  rintro e w1 ⟨rfl, q1⟩
  have q2 := ((Q.refl w).alloc _).trans q1
  go_wp2_with fail
  refine (T.out _ q2).mono ?_
  rintro e w2 ⟨rfl, q3⟩
  obtain ⟨z0, z1, z2, z3, f0, f1, f2, f3⟩ := zero_of (q1.trans q3)
  have q := q2.trans q3
  go_wp2
  (try simp only [Exit.inBlock, Exit.then])
  refine bodyPost_ret (v := .tuple #[.agg #[.int .u64 (fi : Nat), .string fd, .bool fm, .int .i64 ft], .int .i64 fe]) ?_ rfl ?_
  · rw [results_cell_tmp rfl]
    go_simp
  · exact ⟨by rw [HE.out], Q.set (Q.set (Q.set (Q.set q (Nat.le_refl _) _) (Nat.le_refl _) _) (Nat.le_refl _) _) (Nat.le_refl _) _⟩

theorem find_idx (l : List Ver) (id : Nat) : (∃ i, ∃ h : i < l.length, idxV (fun x => decide (x.id = id)) l = (i : Nat) ∧ findV l id = some l[i]) ∨ (idxV (fun x => decide (x.id = id)) l = -1 ∧ findV l id = none) := by
  unfold idxV
  cases h : l.findIdx? (fun x => decide (x.id = id)) with
  | some i =>
    left
    rw [List.findIdx?_eq_some_iff_getElem] at h
    obtain ⟨hi, hp, hk⟩ := h
    exact ⟨i, hi, rfl, find_at (fun j hj hl => by simpa using hk j hj) hi (by simpa using hp)⟩
  | none =>
    right
    rw [List.findIdx?_eq_none_iff] at h
    exact ⟨rfl, find_none (fun j hl => by simpa using h _ (List.getElem_mem hl))⟩
set_option maxHeartbeats 2000000 in
theorem find_arg (l : List Ver) (v : Value) (id : Nat) (w : World) (hR : ¬ okP l) (hl : l.length ≤ 1000) (ht : Vers w w.heap.size v l) :
    Calls Try.prog 24 #[v, .int .u64 (id : Nat)] w fun e w' => e = .returned (.tuple #[zeroV, .int .i64 1]) ∧ Q w w' := by
  have C : Hid (∀ o, Calls Try.prog 17 #[v] (w.alloc o) fun e w' => e = .returned (.int .i64 1) ∧ Q (w.alloc o) w') := Lib.hid (fun o => check_bad l v (w.alloc o) hR hl (ht.on ((Q.refl w).alloc o)))
  go_enter Try.func24, Try.ntmps24
  go_wp2_with fail
  refine (C.out _).mono ?_
  rintro e w1 ⟨rfl, q1⟩
  obtain ⟨z0, z1, z2, z3, f0, f1, f2, f3⟩ := zero_of q1
  have q := ((Q.refl w).alloc _).trans q1
  go_wp2
  (try simp only [Exit.inBlock, Exit.then])
  refine bodyPost_ret (v := .tuple #[.agg #[.int .u64 0, .string ⟨#[]⟩, .bool false, .int .i64 0], .int .i64 1]) ?_ rfl ?_
  · rw [results_cell_tmp rfl]
    go_simp
  · exact ⟨rfl, Q.set (Q.set (Q.set (Q.set q (Nat.le_refl _) _) (Nat.le_refl _) _) (Nat.le_refl _) _) (Nat.le_refl _) _⟩
set_option maxHeartbeats 2000000 in
theorem find_any (l : List Ver) (v : Value) (id : Nat) (w : World) (hR : okP l) (hl : l.length ≤ 1000) (ht : Vers w w.heap.size v l) :
    Calls Try.prog 24 #[v, .int .u64 (id : Nat)] w fun e w' => e = .returned (findR (findV l id)) ∧ Q w w' := by
  have C : Hid (∀ o, Calls Try.prog 17 #[v] (w.alloc o) fun e w' => e = .returned (.int .i64 0) ∧ Q (w.alloc o) w') := Lib.hid (fun o => check_ok l v (w.alloc o) hR hl (ht.on ((Q.refl w).alloc o)))
  have P : Hid (∀ b, Q w b → Calls Try.prog 33 #[v, .int .u64 (id : Nat)] b fun e w' => e = .returned (.int .i64 (idxV (fun x => decide (x.id = id)) l)) ∧ Q b w') := Lib.hid (fun b q => place_any l v id b hl (ht.on q))
  obtain ⟨fi, fd, fm, ft, fe, hfe⟩ := findR_parts (findV l id)
  have T : Hid (∀ b, Q w b → Calls Try.prog 35 #[v, .int .i64 (idxV (fun x => decide (x.id = id)) l)] b fun e w' => e = .returned (.tuple #[.agg #[.int .u64 (fi : Nat), .string fd, .bool fm, .int .i64 ft], .int .i64 fe]) ∧ Q b w') := Lib.hid (fun b q => by
    rw [← hfe]
    rcases find_idx l id with ⟨i, hi, h1, h2⟩ | ⟨h1, h2⟩
    · rw [h1, h2]; exact told_at l v i b hi hl (ht.on q)
    · rw [h1, h2]; exact told_below l v b hl (ht.on q))
  have HE := Lib.hid hfe
  clear hfe hR ht
  generalize idxV (fun x => decide (x.id = id)) l = r at P T
  go_enter Try.func24, Try.ntmps24
  go_wp2_with fail
  refine (C.out _).mono ?_
  rintro e w1 ⟨rfl, q1⟩
  have q2 := ((Q.refl w).alloc _).trans q1
  go_wp2_with fail
  refine (P.out _ q2).mono ?_
  rintro e w2 ⟨rfl, q3⟩
  have q4 := q2.trans q3
  go_wp2_with fail
  refine (T.out _ q4).mono ?_
  rintro e w3 ⟨rfl, q5⟩
  obtain ⟨z0, z1, z2, z3, f0, f1, f2, f3⟩ := zero_of ((q1.trans q3).trans q5)
  have q := q4.trans q5
  go_wp2
  (try simp only [Exit.inBlock, Exit.then])
  refine bodyPost_ret (v := .tuple #[.agg #[.int .u64 (fi : Nat), .string fd, .bool fm, .int .i64 ft], .int .i64 fe]) ?_ rfl ?_
  · rw [results_cell_tmp rfl]
    go_simp
  · exact ⟨by rw [HE.out], Q.set (Q.set (Q.set (Q.set q (Nat.le_refl _) _) (Nat.le_refl _) _) (Nat.le_refl _) _) (Nat.le_refl _) _⟩
end Go.Proofs.Ytflfhigldkdlmaa
