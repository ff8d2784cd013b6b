/-
  Contracts of the statements' One and Few, and of the document's Same.
-/
import Derived.Test.YtbilnomafloopaaGreatVRefs
import Derived.Laws.ResultCell
namespace Go.Proofs.YtbilnomafloopaaGreat
set_option maxRecDepth 100000
open Go.ChangeShapes Go.WideShapes Go.ChangeAt Go.RowKit
set_option linter.unusedVariables false

/-- One, and Few. -/
def oneV (v : Ver) : Ver := if 2001 < v.data.size then { v with data := v.data.extract 0 2001 } else v
theorem oneV_ok {v : Ver} (h : okV v) : okV (oneV v) := by
  unfold oneV
  split
  · refine ⟨h.1, ?_, h.2.2⟩
    show (v.data.extract 0 2001).size ≤ maxLen
    rw [size_cut _ (by omega)]; unfold maxLen; omega
  · exact h
theorem oneV_size (v : Ver) : (oneV v).data.size ≤ 2001 := by
  unfold oneV
  split
  · show (v.data.extract 0 2001).size ≤ 2001
    rw [size_cut _ (by omega)]; omega
  · omega
def fewV (l : List Ver) : List Ver := (l.take 21).map oneV
theorem Q.set {a b : World} (h : Q a b) {g k : Nat} (hg : a.heap.size ≤ g) (u : Value) : Q a (b.setCell ⟨g, k, none⟩ u) := Below.setCell h hg u

set_option maxHeartbeats 1000000 in
theorem one_any (v : Ver) (w : World) (h : okV v) :
    Calls Tryz.prog 152 #[ver v] w fun e w' => e = .returned (ver (oneV v)) ∧ Q w w' := by
  obtain ⟨h1, h2, h3⟩ := h
  unfold maxLen at h2
  obtain ⟨i, d, m, t⟩ := v
  simp only at h1 h2 h3
  by_cases hb : 2001 < d.size
  · have HV : Hid (oneV ⟨i, d, m, t⟩ = ⟨i, d.extract 0 2001, m, t⟩) := Lib.hid (by rw [oneV, if_pos hb])
    rw [ver]
    simp only
    have hb2 : (2001 : Int) < (d.size : Int) := by omega
    go_enter Tryz.func152, Tryz.ntmps152
    go_wp2
    (try simp only [Exit.inBlock, Exit.then])
    refine bodyPost_ret (v := .agg #[.int .u64 (i : Nat), .string (d.extract 0 2001), .bool m, .int .i64 t]) ?_ rfl ?_
    · simp [results, Tryz.results152, go_sem]
    · exact ⟨by rw [HV.out]; rfl, ((Q.refl w).alloc _).alloc _⟩
  · have HV : Hid (oneV ⟨i, d, m, t⟩ = ⟨i, d, m, t⟩) := Lib.hid (by rw [oneV, if_neg hb])
    rw [ver]
    simp only
    have hb2 : ¬ (2001 : Int) < (d.size : Int) := by omega
    go_enter Tryz.func152, Tryz.ntmps152
    go_wp2
    (try simp only [Exit.inBlock, Exit.then])
    refine bodyPost_ret (v := .agg #[.int .u64 (i : Nat), .string d, .bool m, .int .i64 t]) ?_ rfl ?_
    · simp [results, Tryz.results152, go_sem]
    · exact ⟨by rw [HV.out]; rfl, ((Q.refl w).alloc _).alloc _⟩
theorem few_take (l : List Ver) (i : Nat) (h : i < l.length) : (l.take (i + 1)).map oneV = (l.take i).map oneV ++ [oneV l[i]] := by
  rw [List.take_succ_eq_append_getElem h, List.map_append]; rfl

set_option maxHeartbeats 2000000 in
theorem few_any (l : List Ver) (v : Value) (w : World) (hl : l.length ≤ maxLen) (ht : Vers w w.heap.size v l) :
    Calls Tryz.prog 97 #[v] w fun e w' => ∃ v', e = .returned v' ∧ OwnV w.heap.size w' v' (fewV l) ∧ Q w w' := by
  obtain ⟨A, c, rfl, -, -, hok, hcells⟩ := ht
  unfold maxLen at hl
  have HC := Lib.hid hcells
  have HK := Lib.hid hok
  clear hcells hok
  obtain ⟨i0, hi, hz0, hz1, hz2⟩ := info_parts info_ver
  go_enter Tryz.func97, Tryz.ntmps97
  go_wp2_with fail
  go_loopw [3, 4] (fun O I wr => ∃ i : Nat, i ≤ l.length ∧ i ≤ 21 ∧ I = .int .i64 i ∧ OwnV w.heap.size wr O ((l.take i).map oneV) ∧ Below w.heap.size w wr) (fun _ I _ => 21 - (intOf I).toNat)
  case atStart => exact ⟨0, Nat.zero_le _, by omega, rfl, OwnV.nil _ _, Below.refl _ _⟩
  case round =>
    obtain ⟨i, hil, hi21, rfl, hown, hbel⟩ := hrel
    by_cases hlt : i < l.length
    · by_cases h21 : i < 21
      · obtain ⟨a, rfl, ha, hat⟩ := HC.out i hlt
        obtain ⟨c0, c1, c2, c3⟩ := hat.keep (by rw [add_block]; exact ha) fun _ hp => hbel.cell hp
        clear hat
        have HW := Lib.hid (few_take l i hlt)
        have hx0 := HK.out _ (List.getElem_mem hlt)
        have hlen : ((l.take i).map oneV).length ≤ 21 := by rw [List.length_map, List.length_take]; omega
        obtain ⟨x, hx⟩ : ∃ x, x = l[i] := ⟨_, rfl⟩
        rw [← hx] at c0 c1 c2 c3 HW hx0
        clear hx
        have hs := hbel.size
        have C := Lib.hid fun w => one_any x w hx0
        rw [ver] at C
        go_wp2_with fail
        refine (C.out _).mono ?_
        rintro e w1 ⟨rfl, q1⟩
        have bel1 : Below w.heap.size w w1 := hbel.trans (Below.mono q1 hs)
        have hown1 : OwnV w.heap.size w1 _ _ := OwnV.on hown q1
        have hs1 := bel1.size
        rw [ver]
        go_wp2_with (first | (at_builtin; refine wpList_append_own _ rfl _ _ 61 rfl w.heap.size 81 i0 (.agg #[.int .u64 0, .string ⟨#[]⟩, .bool false, .int .i64 0]) 4 40 Tryz.underlying61 hi hz0 hz1 hz2 rfl (by decide) _ _ _ rfl (World.ownsRow.alloc hown1 _) ⟨w1.heap.size, 0, none⟩ 1 1 (vcells (oneV x)) rfl rfl (cells_one _ _ _) (vcells_one _) (by unfold maxLen; omega) (by omega) (by simp; omega) ?_; intro v1 w2 h1 h2 _; have r1 : OwnV w.heap.size w2 v1 ((l.take i).map oneV ++ [oneV x]) := OwnV.onto (M := [oneV x]) (by simpa using h1) rfl; have b1 := ownV_grown (bel1.alloc hs1 _) (by simp; omega) (World.ownsRow.alloc hown1 _) h2; rw [← HW.out] at r1; clear h1 h2))
        go_roundw
        case rel => exact ⟨i + 1, by omega, by omega, by go_num, r1, b1⟩
        case measure => simp [intOf]; omega
      · have HW : Hid (fewV l = (l.take i).map oneV) := Lib.hid (by rw [fewV, show i = 21 by omega])
        have h2 : ¬ (i : Int) < 21 := by omega
        go_wp2
        go_ret
        exact ⟨_, rfl, by rw [HW.out]; exact hown, hbel⟩
    · have HW : Hid (fewV l = (l.take i).map oneV) := Lib.hid (by rw [fewV, List.take_of_length_le (by omega), List.take_of_length_le (by omega)])
      have h2 : ¬ (i : Int) < (l.length : Int) := by omega
      go_wp2
      go_ret
      exact ⟨_, rfl, by rw [HW.out]; exact hown, hbel⟩
end Go.Proofs.YtbilnomafloopaaGreat
