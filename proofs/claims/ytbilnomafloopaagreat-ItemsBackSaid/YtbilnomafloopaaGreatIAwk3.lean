/-
  What drafts of nothing, and of the empty depot's one item, are put together to.
-/
import Derived.Test.YtbilnomafloopaaGreatIAwk2
namespace Go.Proofs.YtbilnomafloopaaGreat
set_option maxRecDepth 100000
open Go.ChangeShapes Go.WideShapes Go.ChangeAt Go.RowKit
set_option linter.unusedVariables false
set_option linter.unusedSimpArgs false

theorem left0 : (leftOf (#[] : Array MapEntry) #[]).size = 0 := by rfl
theorem left0_no {e : MapEntry} (h : e ∈ (leftOf (#[] : Array MapEntry) #[]).toList) : False := leftW_empty left0 h
set_option maxHeartbeats 2000000 in
theorem layV0 (w : World) (P pa pb pc pd : Nat) (hb : Bx w P 138 #[.int .i64 0, .map (some pa), .map (some pb), .map (some pc), .map (some pd)]) (hm : w.heap[pb]? = some (.map #[] 0)) :
    Calls Tryz.prog 121 #[.pointer (some ⟨P, 0, none⟩)] w fun e w' => e = .returned (.tuple #[]) ∧ Q w w' := by
  have d0 := hb.cell 2
  simp only [List.getElem?_toArray, List.getElem?_cons_zero, List.getElem?_cons_succ] at d0
  have it0 : (w.alloc (.mapIter (some pb) 0 #[] 0)).heap[w.heap.size]? = some (.mapIter (some pb) 0 #[] 0) := heap_new _ _
  have m0 := (((Q.refl w).alloc (.mapIter (some pb) 0 #[] 0)).block pb (lt_of_block hm)).trans hm
  have q0 := (Q.refl w).alloc (.mapIter (some pb) 0 #[] 0)
  obtain ⟨pi, hpi⟩ : ∃ z, z = w.heap.size := ⟨_, rfl⟩
  obtain ⟨y1, hy1⟩ : ∃ z, z = w.alloc (.mapIter (some pb) 0 #[] 0) := ⟨_, rfl⟩
  rw [← hy1] at it0 m0 q0
  rw [← hpi] at it0
  have HIT := Lib.hid it0
  have HM0 := Lib.hid m0
  have HQ0 := Lib.hid q0
  clear it0 m0 q0
  go_enter Tryz.func121, Tryz.ntmps121
  go_wp2_with (at_range; refine wpList_range_g Tryz.underlying134 _ rfl _ rfl _ _ _ rfl hm ?_)
  rw [← hy1, ← hpi]
  clear hy1 hpi hm d0
  (try simp only [Act.put, List.setIfInBounds_toArray, List.set_cons_zero, List.set_cons_succ])
  go_loopw [12] (fun _ wr => wr.heap[pi]? = some (.mapIter (some pb) 0 #[] 0) ∧ wr.heap[pb]? = some (.map #[] 0) ∧ Q w wr) (fun _ _ => 0)
  case atStart => exact ⟨HIT.out, HM0.out, HQ0.out⟩
  case round =>
    obtain ⟨hit, hmr, q⟩ := hrel
    clear HIT HM0 HQ0
    go_wp2_with (at_next; refine wpList_next_w _ rfl _ rfl _ _ _ _ _ _ _ rfl hit hmr (by simp) (Nat.le_refl _) (fun _ => ?_) (fun e he => (left0_no he).elim))
    go_end0
    exact ⟨rfl, q⟩
set_option maxHeartbeats 2000000 in
theorem layU0 (w : World) (P pa pb pc pd : Nat) (hb : Bx w P 138 #[.int .i64 0, .map (some pa), .map (some pb), .map (some pc), .map (some pd)]) (hm : w.heap[pc]? = some (.map #[] 0)) :
    Calls Tryz.prog 122 #[.pointer (some ⟨P, 0, none⟩)] w fun e w' => e = .returned (.tuple #[]) ∧ Q w w' := by
  have d0 := hb.cell 3
  simp only [List.getElem?_toArray, List.getElem?_cons_zero, List.getElem?_cons_succ] at d0
  have it0 : (w.alloc (.mapIter (some pc) 0 #[] 0)).heap[w.heap.size]? = some (.mapIter (some pc) 0 #[] 0) := heap_new _ _
  have m0 := (((Q.refl w).alloc (.mapIter (some pc) 0 #[] 0)).block pc (lt_of_block hm)).trans hm
  have q0 := (Q.refl w).alloc (.mapIter (some pc) 0 #[] 0)
  obtain ⟨pi, hpi⟩ : ∃ z, z = w.heap.size := ⟨_, rfl⟩
  obtain ⟨y1, hy1⟩ : ∃ z, z = w.alloc (.mapIter (some pc) 0 #[] 0) := ⟨_, rfl⟩
  rw [← hy1] at it0 m0 q0
  rw [← hpi] at it0
  have HIT := Lib.hid it0
  have HM0 := Lib.hid m0
  have HQ0 := Lib.hid q0
  clear it0 m0 q0
  go_enter Tryz.func122, Tryz.ntmps122
  go_wp2_with (at_range; refine wpList_range_g Tryz.underlying135 _ rfl _ rfl _ _ _ rfl hm ?_)
  rw [← hy1, ← hpi]
  clear hy1 hpi hm d0
  (try simp only [Act.put, List.setIfInBounds_toArray, List.set_cons_zero, List.set_cons_succ])
  go_loopw [12] (fun _ wr => wr.heap[pi]? = some (.mapIter (some pc) 0 #[] 0) ∧ wr.heap[pc]? = some (.map #[] 0) ∧ Q w wr) (fun _ _ => 0)
  case atStart => exact ⟨HIT.out, HM0.out, HQ0.out⟩
  case round =>
    obtain ⟨hit, hmr, q⟩ := hrel
    clear HIT HM0 HQ0
    go_wp2_with (at_next; refine wpList_next_w _ rfl _ rfl _ _ _ _ _ _ _ rfl hit hmr (by simp) (Nat.le_refl _) (fun _ => ?_) (fun e he => (left0_no he).elim))
    go_end0
    exact ⟨rfl, q⟩
set_option maxHeartbeats 4000000 in
theorem depot0_any (w : World) (P pa pb pc pd : Nat) (hb : Bx w P 138 #[.int .i64 0, .map (some pa), .map (some pb), .map (some pc), .map (some pd)]) (ha : w.heap[pa]? = some (.map #[] 0)) (hm : w.heap[pb]? = some (.map #[] 0)) (hc : w.heap[pc]? = some (.map #[] 0)) :
    Calls Tryz.prog 76 #[.pointer (some ⟨P, 0, none⟩)] w fun e w' => e = .returned (.agg #[.int .i64 0, .slice none 0 0]) ∧ Q w w' := by
  have C1 := Lib.hid (fun (x : World) (q : Q w x) => layV0 x P pa pb pc pd (hb.on q) ((q.block pb (lt_of_block hm)).trans hm))
  have C2 := Lib.hid (fun (x : World) (q : Q w x) => layU0 x P pa pb pc pd (hb.on q) ((q.block pc (lt_of_block hc)).trans hc))
  have C3 : Hid (∀ x : World, Calls Tryz.prog 128 #[.slice none 0 0, .func (.func 129) #[] #[]] x fun e w' => e = .returned (.tuple #[]) ∧ w' = x) := Lib.hid (fun x => AnyF.slices_SortFunc_none laysSB none 0 _ x)
  have HB := Lib.hid hb
  have HA := Lib.hid ha
  have q0 := (Q.refl w).alloc (.cells #[.int .i64 0, .slice none 0 0] 24)
  have n0 := Bx.new w 24 #[.int .i64 0, .slice none 0 0]
  clear hb ha hm hc
  go_enter Tryz.func76, Tryz.ntmps76
  go_wp2_with fail
  refine (C1.out _ q0).mono ?_
  rintro e w1 ⟨rfl, q1⟩
  have q2 := q0.trans q1
  go_wp2_with fail
  refine (C2.out _ q2).mono ?_
  rintro e w2 ⟨rfl, q3⟩
  have q4 := q2.trans q3
  have n2 := (n0.on q1).on q3
  have d0 := (HB.out.on q4).cell 0
  have d1 := (HB.out.on q4).cell 1
  simp only [List.getElem?_toArray, List.getElem?_cons_zero, List.getElem?_cons_succ] at d0 d1
  have hma := (q4.block pa (lt_of_block HA.out)).trans HA.out
  clear C1 C2 q0 q1 q2 q3 n0
  have q5 := q4.alloc (.cells #[.int .i64 0, .slice none 0 0] 24)
  have n5 := n2.alloc (.cells #[.int .i64 0, .slice none 0 0] 24)
  have b5 := Bx.new w2 24 #[.int .i64 0, .slice none 0 0]
  have hm5 := (((Q.refl w2).alloc (.cells #[.int .i64 0, .slice none 0 0] 24)).block pa (lt_of_block hma)).trans hma
  go_upto_region 4 with fail
  obtain ⟨pb2, hpb2⟩ : ∃ z, z = w2.heap.size := ⟨_, rfl⟩
  obtain ⟨y0, hy0⟩ : ∃ z, z = w2.alloc (.cells #[.int .i64 0, .slice none 0 0] 24) := ⟨_, rfl⟩
  rw [← hy0] at q5 n5 b5 hm5
  rw [← hpb2] at b5
  rw [← hy0, ← hpb2]
  have e1 : y0.cell? ⟨P, 1, none⟩ = some (.map (some pa)) := by
    have h := (HB.out.on q5).cell 1
    simpa using h
  have hwp : w.heap.size ≤ pb2 := by rw [hpb2]; exact q4.size
  have hlt2 := n2.lt
  rw [← hpb2] at hlt2
  clear hy0 hpb2 hma d0 d1 n2 q4
  have it0 : (y0.alloc (.mapIter (some pa) 0 #[] 0)).heap[y0.heap.size]? = some (.mapIter (some pa) 0 #[] 0) := heap_new _ _
  have m0 := (((Q.refl y0).alloc (.mapIter (some pa) 0 #[] 0)).block pa (lt_of_block hm5)).trans hm5
  have q6 := q5.alloc (.mapIter (some pa) 0 #[] 0)
  have n6 := n5.alloc (.mapIter (some pa) 0 #[] 0)
  have b6 := b5.alloc (.mapIter (some pa) 0 #[] 0)
  obtain ⟨pi, hpi⟩ : ∃ z, z = y0.heap.size := ⟨_, rfl⟩
  obtain ⟨y1, hy1⟩ : ∃ z, z = y0.alloc (.mapIter (some pa) 0 #[] 0) := ⟨_, rfl⟩
  rw [← hy1] at it0 m0 q6 n6 b6
  rw [← hpi] at it0
  have HIT := Lib.hid it0
  have HM0 := Lib.hid m0
  have HQ6 := Lib.hid q6
  have HN6 := Lib.hid n6
  have HB6 := Lib.hid b6
  clear it0 m0 q6 n6 b6 n5 b5 q5
  go_wp2_with (at_range; refine wpList_range_g Tryz.underlying133 _ rfl _ rfl _ _ _ rfl hm5 ?_)
  rw [← hy1, ← hpi]
  clear hy1 hpi hm5 e1
  (try simp only [Act.put, List.setIfInBounds_toArray, List.set_cons_zero, List.set_cons_succ])
  go_loopw [21] (fun _ wr => wr.heap[pi]? = some (.mapIter (some pa) 0 #[] 0) ∧ wr.heap[pa]? = some (.map #[] 0) ∧ Q w wr ∧ Bx wr w.heap.size 24 #[.int .i64 0, .slice none 0 0] ∧ Bx wr pb2 24 #[.int .i64 0, .slice none 0 0]) (fun _ _ => 0)
  case atStart => exact ⟨HIT.out, HM0.out, HQ6.out, HN6.out, HB6.out⟩
  case round =>
    obtain ⟨hit, hmr, q, bn, bb⟩ := hrel
    clear HIT HM0 HQ6 HN6 HB6
    have u0 := bb.cell 0
    have u1 := bb.cell 1
    have z0 := bn.cell 0
    have z1 := bn.cell 1
    have f0 := bn.frozen 0
    have f1 := bn.frozen 1
    simp only [List.getElem?_toArray, List.getElem?_cons_zero, List.getElem?_cons_succ] at u0 u1 z0 z1
    go_wp2_with (first
      | (at_next; refine wpList_next_w _ rfl _ rfl _ _ _ _ _ _ _ rfl hit hmr (by simp) (Nat.le_refl _) (fun _ => ?_) (fun e he => (left0_no he).elim))
      | (go_at_call 128; refine (C3.out _).mono ?_; rintro e w9 ⟨rfl, rfl⟩))
    have bs := (bn.set 0 (.int .i64 0)).set 1 (.slice none 0 0)
    have k0 := bs.cell 0
    have k1 := bs.cell 1
    (try simp only [Exit.inBlock, Exit.then])
    refine bodyPost_ret (v := .agg #[.int .i64 0, .slice none 0 0]) ?_ rfl ⟨rfl, Q.set (Q.set q (Nat.le_refl _) _) (Nat.le_refl _) _⟩
    simp at k0 k1
    simp [results, Tryz.results76, go_sem, k0, k1]
end Go.Proofs.YtbilnomafloopaaGreat
