/-
  Contracts of the document's without, Check, Find, Same.
-/
import Derived.Test.YtbilnomafloopaaGreatVers
namespace Go.Proofs.YtbilnomafloopaaGreat
set_option maxRecDepth 100000
open Go.ChangeShapes Go.WideShapes Go.ChangeAt Go.RowKit
set_option linter.unusedVariables false

/-- The chain without a version. -/
def woV (l : List Ver) (id : Nat) : List Ver := l.filter fun x => decide (x.id ≠ id)
theorem wo_take_no {l : List Ver} {i id : Nat} (h : i < l.length) (k : l[i].id = id) : woV (l.take (i + 1)) id = woV (l.take i) id := by
  rw [List.take_succ_eq_append_getElem h, woV, List.filter_append, ← woV, List.filter_cons_of_neg (by simp [k])]; simp
theorem wo_take_yes {l : List Ver} {i id : Nat} (h : i < l.length) (k : l[i].id ≠ id) : woV (l.take (i + 1)) id = woV (l.take i) id ++ [l[i]] := by
  rw [List.take_succ_eq_append_getElem h, woV, List.filter_append, ← woV, List.filter_cons_of_pos (by simp [k])]; rfl
theorem wo_length (l : List Ver) (id : Nat) : (woV l id).length ≤ l.length := List.length_filter_le ..

set_option maxHeartbeats 2000000 in
theorem rwithout_any (l : List Ver) (v : Value) (id : Nat) (w : World) (hl : l.length ≤ 1000) (ht : Vers w w.heap.size v l) :
    Calls Tryz.prog 145 #[v, .int .u64 (id : Nat)] w fun e w' => ∃ v', e = .returned v' ∧ OwnV w.heap.size w' v' (woV l id) ∧ Q w w' := by
  obtain ⟨A, c, rfl, -, -, -, hcells⟩ := ht
  have HC := Lib.hid hcells
  clear hcells
  obtain ⟨i0, hi, hz0, hz1, hz2⟩ := info_parts info_ver
  go_enter Tryz.func145, Tryz.ntmps145
  go_wp2_with fail
  go_loopw [5, 6] (fun O I wr => ∃ i : Nat, i ≤ l.length ∧ I = .int .i64 i ∧ OwnV w.heap.size wr O (woV (l.take i) id) ∧ Below w.heap.size w wr) (fun _ I _ => l.length - (intOf I).toNat)
  case atStart => exact ⟨0, Nat.zero_le _, rfl, OwnV.nil _ _, Below.refl _ _⟩
  case round =>
    obtain ⟨i, hil, rfl, hown, hbel⟩ := hrel
    by_cases hlt : i < l.length
    · obtain ⟨a, rfl, ha, hat⟩ := HC.out i hlt
      obtain ⟨c0, c1, c2, c3⟩ := hat.keep (by rw [add_block]; exact ha) fun _ hp => hbel.cell hp
      clear hat
      by_cases hid : l[i].id = id
      · have HW := Lib.hid (wo_take_no hlt hid)
        obtain ⟨x, hx⟩ : ∃ x, x = l[i] := ⟨_, rfl⟩
        rw [← hx] at c0 c1 c2 c3
        have hne : ((x.id : Int) != (id : Int)) = false := by rw [hx, hid]; simp
        clear hx hid
        go_wp2_with fail
        go_roundw
        case rel => exact ⟨i + 1, by omega, by go_num, by rw [HW.out]; exact hown, hbel⟩
        case measure => simp [intOf]; omega
      · have HW := Lib.hid (wo_take_yes hlt hid)
        have hlen : (woV (l.take i) id).length ≤ 1000 := by have := wo_length (l.take i) id; rw [List.length_take] at this; omega
        obtain ⟨x, hx⟩ : ∃ x, x = l[i] := ⟨_, rfl⟩
        rw [← hx] at c0 c1 c2 c3 HW
        have hne : ((x.id : Int) != (id : Int)) = true := by
          rw [hx]
          have : ¬ ((l[i].id : Int) = (id : Int)) := by omega
          simpa using this
        clear hx hid
        have hs := hbel.size
        go_wp2_with (first | (at_builtin; refine wpList_append_own _ rfl _ _ 61 rfl w.heap.size 81 i0 (.agg #[.int .u64 0, .string ⟨#[]⟩, .bool false, .int .i64 0]) 4 40 Tryz.underlying61 hi hz0 hz1 hz2 rfl (by decide) _ _ _ rfl (World.ownsRow.alloc hown _) ⟨wr.heap.size, 0, none⟩ 1 1 (vcells x) rfl rfl (cells_one _ _ _) (vcells_one x) (by unfold maxLen; omega) (by omega) (by simp; omega) ?_; intro v1 w1 h1 h2 _; have r1 : OwnV w.heap.size w1 v1 (woV (l.take i) id ++ [x]) := OwnV.onto (M := [x]) (by simpa using h1) rfl; have b1 := ownV_grown (hbel.alloc hs _) (by simp; omega) (World.ownsRow.alloc hown _) h2; rw [← HW.out] at r1; clear h1 h2))
        go_roundw
        case rel => exact ⟨i + 1, by omega, by go_num, r1, b1⟩
        case measure => simp [intOf]; omega
    · obtain rfl : i = l.length := by omega
      rw [List.take_length] at hown
      go_wp2
      go_ret
      exact ⟨_, rfl, hown, hbel⟩
end Go.Proofs.YtbilnomafloopaaGreat
