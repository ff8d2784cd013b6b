/-
  Contracts of the program's gathered; of cmp.Compare at texts, and of the sorts' closures.
-/
import Derived.Test.YtbilnomafloopaaGreatIRef3
namespace Go.Proofs.YtbilnomafloopaaGreat
set_option maxRecDepth 100000
open Go.ChangeShapes Go.WideShapes Go.ChangeAt Go.RowKit
set_option linter.unusedVariables false
set_option linter.unusedSimpArgs false

theorem mapI_of (w : World) : (Instr.makeMap mapI none).run Tryz.prog w = .ok (.map (some w.heap.size)) (w.alloc (.map #[] 0)) := @run_makeMap Tryz.prog mapI w
set_option maxHeartbeats 4000000 in
theorem gathered_any (l : List Itm) (v : Value) (w : World) (hl : l.length ≤ 1000) (ht : Itms w w.heap.size v l) :
    Calls Tryz.prog 43 #[v] w fun e w' => ∃ p, e = .returned (.map (some p)) ∧ w.heap.size ≤ p ∧ MapI p l.length (ofI l) w' ∧ Q w w' := by
  obtain ⟨A, c, rfl, -, -, hok, hcells⟩ := ht
  have HC := Lib.hid hcells
  have HK := Lib.hid hok
  have HI : Hid (∀ i, ∀ x ∈ ofI (l.take i), x.n.size ≤ maxLen) := Lib.hid (fun i x hx => (hok x (List.mem_of_mem_take (ofI_sub hx))).1)
  clear hcells hok
  have hmm := @run_makeMap Tryz.prog
  have m0 := MapI.made w
  have q0 := (Q.refl w).alloc (.map #[] 0)
  obtain ⟨W0, hW0⟩ : ∃ z, z = w.alloc (.map #[] 0) := ⟨_, rfl⟩
  rw [← hW0] at m0 q0
  have HM0 := Lib.hid m0
  have HQ0 := Lib.hid q0
  clear m0 q0
  go_enter Tryz.func43, Tryz.ntmps43
  go_wp2_with fail
  rw [← hW0]
  clear hW0 hmm
  go_loopw [9] (fun I wr => ∃ i : Nat, i ≤ l.length ∧ I = .int .i64 i ∧ MapI w.heap.size i (ofI (l.take i)) wr ∧ Q w wr) (fun I _ => l.length - (intOf I).toNat)
  case atStart => exact ⟨0, Nat.zero_le _, rfl, HM0.out, HQ0.out⟩
  case round =>
    obtain ⟨i, hil, rfl, hm, hbel⟩ := hrel
    by_cases hlt : i < l.length
    · obtain ⟨a, hAa, ha, hat⟩ := HC.out i hlt
      subst hAa
      obtain ⟨c0, c1⟩ := hat.keep (by rw [add_block]; exact ha) fun p hp => hbel.cell hp
      have hy0 := HK.out _ (List.getElem_mem hlt)
      have HW := Lib.hid (ofI_take l i hlt)
      obtain ⟨y, hy⟩ : ∃ y, y = l[i] := ⟨_, rfl⟩
      rw [← hy] at c0 c1 hy0 HW
      clear hy hat
      have hilt : (i : Int) < (l.length : Int) := by omega
      obtain ⟨w5, hrun, m5, g5, -⟩ := (hm.on ((Q.refl wr).alloc (.cells #[.string y.n, .string y.val] 68))).put (HI.out i) (x := y) hy0.1
      have q5 := g5.q (hbel.trans ((Q.refl wr).alloc (.cells #[.string y.n, .string y.val] 68))) (Nat.le_refl _)
      rw [← HW.out] at m5
      rw [itm] at hrun
      have RUN := Lib.hid hrun
      clear hrun hm g5 hy0
      go_wp2_with (at_mapUpdate; refine wpList_run_put RUN.out rfl _ _ _ rfl rfl rfl rfl ?_)
      go_roundw
      case rel => exact ⟨i + 1, by omega, by go_num, m5, q5⟩
      case measure => simp [intOf]; omega
    · have h2 : ¬ (i : Int) < (l.length : Int) := by omega
      rw [List.take_of_length_le (by omega)] at hm
      go_wp2
      go_ret
      exact ⟨_, rfl, Nat.le_refl _, hm.more hil, hbel⟩
/-- Two texts held against each other. -/
def cmpT (a b : ByteArray) : Int := if ltB a b = true then -1 else if ltB b a = true then 1 else 0
set_option maxHeartbeats 1000000 in
theorem cmpS_any (a b : ByteArray) (w : World) : Calls Tryz.prog 46 #[.string a, .string b] w fun e w' => e = .returned (.int .i64 (cmpT a b)) ∧ w' = w := by
  have hg := gtr_form a b
  cases h1 : ltB a b with
  | true =>
    have HV : Hid (cmpT a b = -1) := Lib.hid (by rw [cmpT, if_pos h1])
    have h3 : Op.bytesLess a.toList b.toList = true := h1
    clear hg h1
    go_enter Tryz.func46, Tryz.ntmps46
    go_wp2
    go_ret
    refine ⟨?_, rfl⟩
    rw [HV.out]
    rfl
  | false =>
    have h3 : Op.bytesLess a.toList b.toList = false := h1
    cases h2 : ltB b a with
    | true =>
      have HV : Hid (cmpT a b = 1) := Lib.hid (by rw [cmpT, h1, h2]; rfl)
      rw [h2] at hg
      have h4 : (a.toList == b.toList) = false := key_ne (fun e => ltB_ne h2 e.symm)
      clear hg h1 h2
      go_enter Tryz.func46, Tryz.ntmps46
      go_wp2
      go_ret
      refine ⟨?_, rfl⟩
      rw [HV.out]
      rfl
    | false =>
      have HV : Hid (cmpT a b = 0) := Lib.hid (by rw [cmpT, h1, h2]; rfl)
      rw [h2] at hg
      have h4 : (a.toList == b.toList) = true := by
        by_cases e : a = b
        · rw [e]; simp
        · rw [ltB_total e h1] at h2; cases h2
      clear hg h1 h2
      go_enter Tryz.func46, Tryz.ntmps46
      go_wp2
      go_ret
      refine ⟨?_, rfl⟩
      rw [HV.out]
      rfl
end Go.Proofs.YtbilnomafloopaaGreat
