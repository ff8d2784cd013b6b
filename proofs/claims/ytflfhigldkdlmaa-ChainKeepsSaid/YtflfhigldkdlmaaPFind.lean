/-
  Contracts of the program's told, Get and Find, and of the document's Get.
-/
import Derived.Test.YtflfhigldkdlmaaPCheck
namespace Go.Proofs.Ytflfhigldkdlmaa
open Go.ChangeShapes Go.WideShapes Go.ChangeAt Go.RowKit
set_option linter.unusedVariables false

theorem check_ok (l : List Ver) (v : Value) (w : World) (hR : okP l) (hl : l.length ≤ 1000) (ht : Vers w w.heap.size v l) :
    Calls Try.prog 17 #[v] w fun e w' => e = .returned (.int .i64 0) ∧ Q w w' := check_any l v w true (.inl ⟨rfl, hR⟩) hl ht
theorem check_bad (l : List Ver) (v : Value) (w : World) (hR : ¬ okP l) (hl : l.length ≤ 1000) (ht : Vers w w.heap.size v l) :
    Calls Try.prog 17 #[v] w fun e w' => e = .returned (.int .i64 1) ∧ Q w w' := check_any l v w false (.inr ⟨rfl, hR⟩) hl ht

set_option maxHeartbeats 2000000 in
theorem told_at (l : List Ver) (v : Value) (i : Nat) (w : World) (hi : i < l.length) (hl : l.length ≤ 1000) (ht : Vers w w.heap.size v l) :
    Calls Try.prog 35 #[v, .int .i64 (i : Nat)] w fun e w' => e = .returned (findR (some l[i])) ∧ Q w w' := by
  obtain ⟨A, c, rfl, -, -, -, hcells⟩ := ht
  obtain ⟨a, rfl, ha, hat⟩ := hcells i hi
  clear hcells
  have q := (Q.refl w).alloc (.cells #[.int .u64 0, .string ⟨#[]⟩, .bool false, .int .i64 0] 25)
  have AT : Hid (∀ o, At (w.alloc o) (a.add (i * 4)) l[i]) := Lib.hid (fun o => hat.keep (by rw [add_block]; exact ha) fun _ hp => Below.cell ((Q.refl w).alloc o) hp)
  obtain ⟨c0, c1, c2, c3⟩ := AT.out (.cells #[.int .u64 0, .string ⟨#[]⟩, .bool false, .int .i64 0] 25)
  clear hat AT
  obtain ⟨x, hx⟩ : ∃ x, x = l[i] := ⟨_, rfl⟩
  rw [← hx] at c0 c1 c2 c3 ⊢
  clear hx
  have hab : (a.add (i * 4)).block ≠ w.heap.size := by rw [add_block]; omega
  cases hm : x.mark with
  | true =>
    rw [hm] at c2
    have HM := Lib.hid hm
    clear hm
    go_enter Try.func35, Try.ntmps35
    go_wp2
    (try simp only [Exit.inBlock, Exit.then])
    refine bodyPost_ret (v := .tuple #[.agg #[.int .u64 (x.id : Nat), .string x.data, .bool true, .int .i64 x.tm], .int .i64 13]) ?_ rfl ?_
    · rw [results_cell_tmp rfl]
      go_simp
    · exact ⟨by simp [findR, ver, HM.out], by first | exact (Q.refl w).alloc _ | exact Q.set (Q.set (Q.set (Q.set q (Nat.le_refl _) _) (Nat.le_refl _) _) (Nat.le_refl _) _) (Nat.le_refl _) _⟩
  | false =>
    rw [hm] at c2
    have HM := Lib.hid hm
    clear hm
    go_enter Try.func35, Try.ntmps35
    go_wp2
    (try simp only [Exit.inBlock, Exit.then])
    refine bodyPost_ret (v := .tuple #[.agg #[.int .u64 (x.id : Nat), .string x.data, .bool false, .int .i64 x.tm], .int .i64 0]) ?_ rfl ?_
    · rw [results_cell_tmp rfl]
      go_simp
    · exact ⟨by simp [findR, ver, HM.out], by first | exact (Q.refl w).alloc _ | exact Q.set (Q.set (Q.set (Q.set q (Nat.le_refl _) _) (Nat.le_refl _) _) (Nat.le_refl _) _) (Nat.le_refl _) _⟩
set_option maxHeartbeats 2000000 in
theorem told_below (l : List Ver) (v : Value) (w : World) (hl : l.length ≤ 1000) (ht : Vers w w.heap.size v l) :
    Calls Try.prog 35 #[v, .int .i64 (-1)] w fun e w' => e = .returned (findR none) ∧ Q w w' := by
  obtain ⟨A, c, rfl, -⟩ := ht
  have q := (Q.refl w).alloc (.cells #[.int .u64 0, .string ⟨#[]⟩, .bool false, .int .i64 0] 25)
  go_enter Try.func35, Try.ntmps35
  go_wp2
  (try simp only [Exit.inBlock, Exit.then])
  refine bodyPost_ret (v := .tuple #[.agg #[.int .u64 0, .string ⟨#[]⟩, .bool false, .int .i64 0], .int .i64 4]) ?_ rfl ?_
  · rw [results_cell_tmp rfl]
    go_simp
  · exact ⟨rfl, by first | exact (Q.refl w).alloc _ | exact Q.set (Q.set (Q.set (Q.set q (Nat.le_refl _) _) (Nat.le_refl _) _) (Nat.le_refl _) _) (Nat.le_refl _) _⟩
set_option maxHeartbeats 2000000 in
theorem told_nil (v : Value) (w : World) (ht : Vers w w.heap.size v []) :
    Calls Try.prog 35 #[v, .int .i64 0] w fun e w' => e = .returned (findR none) ∧ Q w w' := by
  obtain ⟨A, c, rfl, -⟩ := ht
  simp only [List.length_nil]
  have q := (Q.refl w).alloc (.cells #[.int .u64 0, .string ⟨#[]⟩, .bool false, .int .i64 0] 25)
  go_enter Try.func35, Try.ntmps35
  go_wp2
  (try simp only [Exit.inBlock, Exit.then])
  refine bodyPost_ret (v := .tuple #[.agg #[.int .u64 0, .string ⟨#[]⟩, .bool false, .int .i64 0], .int .i64 4]) ?_ rfl ?_
  · rw [results_cell_tmp rfl]
    go_simp
  · exact ⟨rfl, by first | exact (Q.refl w).alloc _ | exact Q.set (Q.set (Q.set (Q.set q (Nat.le_refl _) _) (Nat.le_refl _) _) (Nat.le_refl _) _) (Nat.le_refl _) _⟩
end Go.Proofs.Ytflfhigldkdlmaa
