/-
  Contract of the document's Get.
-/
import Derived.Test.YtflfhigldkdlmaaVFind
namespace Go.Proofs.Ytflfhigldkdlmaa
open Go.ChangeShapes Go.WideShapes Go.ChangeAt Go.RowKit
set_option linter.unusedVariables false

set_option maxHeartbeats 2000000 in
theorem rget_nil (v : Value) (w : World) (ht : Vers w w.heap.size v []) :
    Calls Try.prog 23 #[v] w fun e w' => e = .returned (.tuple #[zeroV, .int .i64 4]) ∧ Q w w' := by
  obtain ⟨A, c, rfl, -⟩ := ht
  have q := (Q.refl w).alloc (.cells #[.int .u64 0, .string ⟨#[]⟩, .bool false, .int .i64 0] 25)
  simp only [List.length_nil]
  go_enter Try.func23, Try.ntmps23
  go_wp2
  (try simp only [Exit.inBlock, Exit.then])
  refine bodyPost_ret (v := .tuple #[.agg #[.int .u64 0, .string ⟨#[]⟩, .bool false, .int .i64 0], .int .i64 4]) ?_ rfl ?_
  · rw [results_cell_tmp rfl]
    go_simp
  · first
    | exact ⟨rfl, q⟩
    | exact ⟨rfl, Q.set (Q.set (Q.set (Q.set q (Nat.le_refl _) _) (Nat.le_refl _) _) (Nat.le_refl _) _) (Nat.le_refl _) _⟩
set_option maxHeartbeats 2000000 in
theorem rget_arg (l : List Ver) (v : Value) (w : World) (h0 : 0 < l.length) (hR : chkP l false) (hl : l.length ≤ 1000) (ht : Vers w w.heap.size v l) :
    Calls Try.prog 23 #[v] w fun e w' => e = .returned (.tuple #[zeroV, .int .i64 1]) ∧ Q w w' := by
  obtain ⟨x, hx⟩ : ∃ x, x = l[0] := ⟨_, rfl⟩
  have C : Hid (∀ o, Calls Try.prog 25 #[v, .int .u64 (x.id : Nat)] (w.alloc o) fun e w' => e = .returned (.tuple #[zeroV, .int .i64 1]) ∧ Q (w.alloc o) w') := Lib.hid (fun o => by
    have := rfind_arg l v x.id (w.alloc o) hR hl (ht.on ((Q.refl w).alloc o))
    exact this)
  have HX := Lib.hid hx
  obtain ⟨A, c, rfl, -, -, -, hcells⟩ := ht
  obtain ⟨a, rfl, ha, hat⟩ := hcells 0 h0
  rw [Nat.zero_mul, show a.add 0 = a by cases a; simp [Addr.add], ← hx] at hat
  have AT : Hid (∀ o, At (w.alloc o) a x) := Lib.hid (fun o => hat.keep ha fun _ hp => Below.cell ((Q.refl w).alloc o) hp)
  obtain ⟨c0, c1, c2, c3⟩ := AT.out (.cells #[.int .u64 0, .string ⟨#[]⟩, .bool false, .int .i64 0] 25)
  have hp : ((l.length : Int) == 0) = false := by
    have : ¬ (l.length : Int) = 0 := by omega
    simpa using this
  have hp2 : (0 : Int) < (l.length : Int) := by omega
  clear hcells hat hx hR
  rw [zeroV] at C
  go_enter Try.func23, Try.ntmps23
  go_wp2_with fail
  refine (C.out _).mono ?_
  rintro e w1 ⟨rfl, q1⟩
  obtain ⟨z0, z1, z2, z3, f0, f1, f2, f3⟩ := zero_of q1
  have q := ((Q.refl w).alloc _).trans q1
  go_wp2
  (try simp only [Exit.inBlock, Exit.then])
  refine bodyPost_ret (v := .tuple #[.agg #[.int .u64 0, .string ⟨#[]⟩, .bool false, .int .i64 0], .int .i64 1]) ?_ rfl ?_
  · rw [results_cell_tmp rfl]
    go_simp
  · exact ⟨rfl, Q.set (Q.set (Q.set (Q.set q (Nat.le_refl _) _) (Nat.le_refl _) _) (Nat.le_refl _) _) (Nat.le_refl _) _⟩
end Go.Proofs.Ytflfhigldkdlmaa
