/-
  What is asked for, cut.
-/
import Derived.Test.YtipipjpdlblifaaGAsk
import Derived.Test.YtipipjpdlblifaaGUntil
namespace Go.Proofs.Ytipipjpdlblifaa
open Go.ChangeShapes Go.WideShapes Go.ChangeAt Go.RowKit
set_option linter.unusedVariables false
set_option linter.unusedSimpArgs false
set_option maxHeartbeats 8000000 in
set_option maxRecDepth 100000 in
theorem cut_ask (l : List Ent) (u : Value) (pp dd key : ByteArray) (id : Nat) (m : Int) (w : World) (hl : l.length ≤ maxLen) (hp : pp.size ≤ maxLen) (hd : dd.size ≤ maxLen) (hk : key.size ≤ maxLen) (ht : Ents w w.heap.size u l) :
    Calls Try.prog 10 #[.agg #[u, .string pp, .string dd, .string key, .int .u64 (id : Nat), .int .i64 m]] w fun e w' =>
      ∃ u', e = .returned (.agg #[u', .string (fewS pp), .string (fewS dd), .string (fewS key), .int .u64 (id : Nat), .int .i64 m]) ∧ Ents w' w'.heap.size u' (fewE l) ∧ Q w w' := by
  obtain ⟨A, c, rfl⟩ := ht.form
  have qa : Q w ((w.alloc (.cells #[.slice A l.length c, .string pp, .string dd, .string key, .int .u64 (id : Nat), .int .i64 m] 25)).alloc (.cells #[.slice none 0 0, .string ⟨#[]⟩, .string ⟨#[]⟩, .string ⟨#[]⟩, .int .u64 0, .int .i64 0] 25)) := ((Q.refl w).alloc _).alloc _
  have FE := Lib.hid (fun b (q : Q w b) => fewE_any l (.slice A l.length c) b hl (ht.on q))
  have FP := Lib.hid fun b => fewS_any pp b hp
  have FD := Lib.hid fun b => fewS_any dd b hd
  have FK := Lib.hid fun b => fewS_any key b hk
  have bx := (((Bx.new w 25 #[.slice A l.length c, .string pp, .string dd, .string key, .int .u64 (id : Nat), .int .i64 m]).alloc (.cells #[.slice none 0 0, .string ⟨#[]⟩, .string ⟨#[]⟩, .string ⟨#[]⟩, .int .u64 0, .int .i64 0] 25)).on (Q.refl _).drew)
  have br := ((Bx.new (w.alloc (.cells #[.slice A l.length c, .string pp, .string dd, .string key, .int .u64 (id : Nat), .int .i64 m] 25)) 25 #[.slice none 0 0, .string ⟨#[]⟩, .string ⟨#[]⟩, .string ⟨#[]⟩, .int .u64 0, .int .i64 0]).on (Q.refl _).drew)
  rw [World.size_alloc] at br
  clear ht
  go_enter Try.func10, Try.ntmps10
  go_wp2_with fail
  refine till_begin (F := (fun x => (Bx x w.heap.size 25 #[.slice A l.length c, .string pp, .string dd, .string key, .int .u64 (id : Nat), .int .i64 m] ∧ Bx x (w.heap.size + 1) 25 #[.slice none 0 0, .string ⟨#[]⟩, .string ⟨#[]⟩, .string ⟨#[]⟩, .int .u64 0, .int .i64 0]) ∧ Q w x)) (st := 13) (by kernel_rfl) (⟨⟨bx, br⟩, qa.drew⟩) (fun hTill => ?_)
  refine till_take (i := 0) (o := _) (v := ?_) rfl (by kernel_rfl) (by kernel_rfl) (by kernel_rfl) (by kernel_rfl) (by rfl) (fun _ _ _ h => h) (Or.inl ⟨by rfl, ?_⟩) (by assumption) ?_
  rotate_left
  · (intro wx hSw; skip; go_simp; (try with_reducible rfl))
  (try simp only [Act.put, List.getElem_toArray, List.getElem_cons_zero, List.getElem_cons_succ, List.setIfInBounds_toArray, List.set_cons_zero, List.set_cons_succ])
  refine till_take (i := 1) (o := _) (v := ?_) rfl (by kernel_rfl) (by kernel_rfl) (by kernel_rfl) (by kernel_rfl) (by rfl) (fun _ _ _ h => h) (Or.inl ⟨by rfl, ?_⟩) (by assumption) ?_
  rotate_left
  · (intro wx hSw; have hy := hSw.1.1.cell 0; simp only [List.getElem?_toArray, List.getElem?_cons_zero, List.getElem?_cons_succ] at hy; go_simp; (try with_reducible rfl))
  (try simp only [Act.put, List.getElem_toArray, List.getElem_cons_zero, List.getElem_cons_succ, List.setIfInBounds_toArray, List.set_cons_zero, List.set_cons_succ])
  refine till_take (i := 3) (o := _) (v := ?_) rfl (by kernel_rfl) (by kernel_rfl) (by kernel_rfl) (by kernel_rfl) (by rfl) (fun _ _ _ h => h) (Or.inl ⟨by rfl, ?_⟩) (by assumption) ?_
  rotate_left
  · (intro wx hSw; skip; go_simp; (try with_reducible rfl))
  (try simp only [Act.put, List.getElem_toArray, List.getElem_cons_zero, List.getElem_cons_succ, List.setIfInBounds_toArray, List.set_cons_zero, List.set_cons_succ])
  refine till_take (i := 4) (o := _) (v := ?_) rfl (by kernel_rfl) (by kernel_rfl) (by kernel_rfl) (by kernel_rfl) (by rfl) (fun _ _ _ h => h) (Or.inl ⟨by rfl, ?_⟩) (by assumption) ?_
  rotate_left
  · (intro wx hSw; have hy := hSw.1.1.cell 1; simp only [List.getElem?_toArray, List.getElem?_cons_zero, List.getElem?_cons_succ] at hy; go_simp; (try with_reducible rfl))
  (try simp only [Act.put, List.getElem_toArray, List.getElem_cons_zero, List.getElem_cons_succ, List.setIfInBounds_toArray, List.set_cons_zero, List.set_cons_succ])
  refine till_take (i := 6) (o := _) (v := ?_) rfl (by kernel_rfl) (by kernel_rfl) (by kernel_rfl) (by kernel_rfl) (by rfl) (fun _ _ _ h => h) (Or.inl ⟨by rfl, ?_⟩) (by assumption) ?_
  rotate_left
  · (intro wx hSw; skip; go_simp; (try with_reducible rfl))
  (try simp only [Act.put, List.getElem_toArray, List.getElem_cons_zero, List.getElem_cons_succ, List.setIfInBounds_toArray, List.set_cons_zero, List.set_cons_succ])
  refine till_take (i := 7) (o := _) (v := ?_) rfl (by kernel_rfl) (by kernel_rfl) (by kernel_rfl) (by kernel_rfl) (by rfl) (fun _ _ _ h => h) (Or.inl ⟨by rfl, ?_⟩) (by assumption) ?_
  rotate_left
  · (intro wx hSw; have hy := hSw.1.1.cell 2; simp only [List.getElem?_toArray, List.getElem?_cons_zero, List.getElem?_cons_succ] at hy; go_simp; (try with_reducible rfl))
  (try simp only [Act.put, List.getElem_toArray, List.getElem_cons_zero, List.getElem_cons_succ, List.setIfInBounds_toArray, List.set_cons_zero, List.set_cons_succ])
  refine till_take (i := 9) (o := _) (v := ?_) rfl (by kernel_rfl) (by kernel_rfl) (by kernel_rfl) (by kernel_rfl) (by rfl) (fun _ _ _ h => h) (Or.inl ⟨by rfl, ?_⟩) (by assumption) ?_
  rotate_left
  · (intro wx hSw; skip; go_simp; (try with_reducible rfl))
  (try simp only [Act.put, List.getElem_toArray, List.getElem_cons_zero, List.getElem_cons_succ, List.setIfInBounds_toArray, List.set_cons_zero, List.set_cons_succ])
  refine till_take (i := 10) (o := _) (v := ?_) rfl (by kernel_rfl) (by kernel_rfl) (by kernel_rfl) (by kernel_rfl) (by rfl) (fun _ _ _ h => h) (Or.inl ⟨by rfl, ?_⟩) (by assumption) ?_
  rotate_left
  · (intro wx hSw; have hy := hSw.1.1.cell 3; simp only [List.getElem?_toArray, List.getElem?_cons_zero, List.getElem?_cons_succ] at hy; go_simp; (try with_reducible rfl))
  (try simp only [Act.put, List.getElem_toArray, List.getElem_cons_zero, List.getElem_cons_succ, List.setIfInBounds_toArray, List.set_cons_zero, List.set_cons_succ])
  refine till_next (i := 2) (o := _) (by kernel_rfl) rfl (fun K hK => ?_)
  go_simp
  go_at_call 22
  refine (FE.out _ hTill.2).mono ?_
  rintro e wa ⟨u', rfl, ho, qo⟩
  refine hK.out _ _ ⟨⟨hTill.1.1.on qo, hTill.1.2.on qo⟩, hTill.2.trans qo⟩ (fun hTill => ?_)
  clear hK K
  (try simp only [Act.put, List.getElem_toArray, List.getElem_cons_zero, List.getElem_cons_succ, List.setIfInBounds_toArray, List.set_cons_zero, List.set_cons_succ])
  refine till_pure (i := 12) (o := _) (v := ?_) rfl (by kernel_rfl) (by kernel_rfl) (by kernel_rfl) (by decide) (fun _ _ _ h => h) (Or.inl ⟨by rfl, ?_⟩) (by first | (intro _; assumption) | (intro e; exact absurd e (by decide))) ?_
  rotate_left
  · (intro wx hSw; go_simp; (try with_reducible rfl))
  (try simp only [Act.put, List.getElem_toArray, List.getElem_cons_zero, List.getElem_cons_succ, List.setIfInBounds_toArray, List.set_cons_zero, List.set_cons_succ])
  have ho2 := Lib.hid (ho.ents qo.size)
  clear ho
  refine till_next (i := 5) (o := _) (by kernel_rfl) rfl (fun K hK => ?_)
  go_simp
  go_at_call 24
  refine (FP.out _).mono ?_
  rintro e wz ⟨rfl, rfl⟩
  refine hK.out _ _ (by assumption) (fun hTill => ?_)
  clear hK K
  (try simp only [Act.put, List.getElem_toArray, List.getElem_cons_zero, List.getElem_cons_succ, List.setIfInBounds_toArray, List.set_cons_zero, List.set_cons_succ])
  refine till_next (i := 8) (o := _) (by kernel_rfl) rfl (fun K hK => ?_)
  go_simp
  go_at_call 24
  refine (FD.out _).mono ?_
  rintro e wz ⟨rfl, rfl⟩
  refine hK.out _ _ (by assumption) (fun hTill => ?_)
  clear hK K
  (try simp only [Act.put, List.getElem_toArray, List.getElem_cons_zero, List.getElem_cons_succ, List.setIfInBounds_toArray, List.set_cons_zero, List.set_cons_succ])
  refine till_next (i := 11) (o := _) (by kernel_rfl) rfl (fun K hK => ?_)
  go_simp
  go_at_call 24
  refine (FK.out _).mono ?_
  rintro e wz ⟨rfl, rfl⟩
  refine hK.out _ _ (by assumption) (fun hTill => ?_)
  clear hK K
  (try simp only [Act.put, List.getElem_toArray, List.getElem_cons_zero, List.getElem_cons_succ, List.setIfInBounds_toArray, List.set_cons_zero, List.set_cons_succ])
  obtain ⟨⟨b1, b2⟩, q1⟩ := hTill
  have x0 := b1.cell 0
  have x1 := b1.cell 1
  have x2 := b1.cell 2
  have x3 := b1.cell 3
  have x4 := b1.cell 4
  have x5 := b1.cell 5
  have f0 := b1.frozen 0
  have f1 := b1.frozen 1
  have f2 := b1.frozen 2
  have f3 := b1.frozen 3
  simp only [List.getElem?_toArray, List.getElem?_cons_zero, List.getElem?_cons_succ] at x0 x1 x2 x3 x4 x5
  have hF2 : (Bx wa w.heap.size 25 #[.slice A l.length c, .string pp, .string dd, .string key, .int .u64 (id : Nat), .int .i64 m] ∧ Bx wa (w.heap.size + 1) 25 #[.slice none 0 0, .string ⟨#[]⟩, .string ⟨#[]⟩, .string ⟨#[]⟩, .int .u64 0, .int .i64 0]) ∧ Q w wa := ⟨⟨b1, b2⟩, q1⟩
  obtain ⟨A3, c3, rfl⟩ := ho2.out.form
  refine till_last (i := 13) (o := _) (by kernel_rfl) rfl (by rfl) (fun K hK => ?_)
  go_simp
  refine hK.out _ _ ?_
  clear hK K
  (try simp only [Act.put, List.getElem_toArray, List.getElem_cons_zero, List.getElem_cons_succ, List.setIfInBounds_toArray, List.set_cons_zero, List.set_cons_succ])
  refine till_last (i := 14) (o := _) (by kernel_rfl) rfl (by rfl) (fun K hK => ?_)
  go_simp
  refine hK.out _ _ ?_
  clear hK K
  (try simp only [Act.put, List.getElem_toArray, List.getElem_cons_zero, List.getElem_cons_succ, List.setIfInBounds_toArray, List.set_cons_zero, List.set_cons_succ])
  refine till_last (i := 15) (o := _) (by kernel_rfl) rfl (by rfl) (fun K hK => ?_)
  go_simp
  refine hK.out _ _ ?_
  clear hK K
  (try simp only [Act.put, List.getElem_toArray, List.getElem_cons_zero, List.getElem_cons_succ, List.setIfInBounds_toArray, List.set_cons_zero, List.set_cons_succ])
  refine till_last (i := 16) (o := _) (by kernel_rfl) rfl (by rfl) (fun K hK => ?_)
  go_simp
  refine hK.out _ _ ?_
  clear hK K
  (try simp only [Act.put, List.getElem_toArray, List.getElem_cons_zero, List.getElem_cons_succ, List.setIfInBounds_toArray, List.set_cons_zero, List.set_cons_succ])
  refine till_last (i := 17) (o := _) (by kernel_rfl) rfl (by rfl) (fun K hK => ?_)
  go_simp
  refine hK.out _ _ ?_
  clear hK K
  (try simp only [Act.put, List.getElem_toArray, List.getElem_cons_zero, List.getElem_cons_succ, List.setIfInBounds_toArray, List.set_cons_zero, List.set_cons_succ])
  refine till_last (i := 18) (o := _) (by kernel_rfl) rfl (by rfl) (fun K hK => ?_)
  go_simp
  refine hK.out _ _ ?_
  clear hK K
  (try simp only [Act.put, List.getElem_toArray, List.getElem_cons_zero, List.getElem_cons_succ, List.setIfInBounds_toArray, List.set_cons_zero, List.set_cons_succ])
  refine till_last (i := 19) (o := _) (by kernel_rfl) rfl (by rfl) (fun K hK => ?_)
  go_simp
  refine hK.out _ _ ?_
  clear hK K
  (try simp only [Act.put, List.getElem_toArray, List.getElem_cons_zero, List.getElem_cons_succ, List.setIfInBounds_toArray, List.set_cons_zero, List.set_cons_succ])
  refine till_done (by kernel_rfl) ?_ _
  have r0 := b2.cell 0
  have r1 := b2.cell 1
  have r2 := b2.cell 2
  have r3 := b2.cell 3
  have r4 := b2.cell 4
  have r5 := b2.cell 5
  have g0 := b2.frozen 0
  have g1 := b2.frozen 1
  have g2 := b2.frozen 2
  have g3 := b2.frozen 3
  have g4 := b2.frozen 4
  have g5 := b2.frozen 5
  simp only [List.getElem?_toArray, List.getElem?_cons_zero, List.getElem?_cons_succ] at r0 r1 r2 r3 r4 r5
  obtain ⟨wB, hwB⟩ : ∃ wB, wB = (((wa.setCell ⟨w.heap.size, 0, none⟩ (.slice A3 (fewE l).length c3)).setCell ⟨w.heap.size, 1, none⟩ (.string (fewS pp))).setCell ⟨w.heap.size, 2, none⟩ (.string (fewS dd))).setCell ⟨w.heap.size, 3, none⟩ (.string (fewS key)) := ⟨_, rfl⟩
  have bB : Bx wB w.heap.size 25 #[.slice A3 (fewE l).length c3, .string (fewS pp), .string (fewS dd), .string (fewS key), .int .u64 (id : Nat), .int .i64 m] := by rw [hwB]; exact (((b1.set 0 _).set 1 _).set 2 _).set 3 _
  have bC : Bx wB (w.heap.size + 1) 25 #[.slice none 0 0, .string ⟨#[]⟩, .string ⟨#[]⟩, .string ⟨#[]⟩, .int .u64 0, .int .i64 0] := by rw [hwB]; exact (((b2.other (by omega) _ _).other (by omega) _ _).other (by omega) _ _).other (by omega) _ _
  have qB : Q w wB := by rw [hwB]; exact Q.set (Q.set (Q.set (Q.set q1 (Nat.le_refl _) _) (Nat.le_refl _) _) (Nat.le_refl _) _) (Nat.le_refl _) _
  have eB : Ents wB wB.heap.size (.slice A3 (fewE l).length c3) (fewE l) := ho2.out.boxed b1 (fun j hj => by rw [hwB]; exact (heap_set _ _ _ _ hj).trans ((heap_set _ _ _ _ hj).trans ((heap_set _ _ _ _ hj).trans (heap_set _ _ _ _ hj)))) (by rw [hwB]; simp)
  rw [← hwB]
  clear hwB
  have s0 := bB.cell 0
  have s1 := bB.cell 1
  have s2 := bB.cell 2
  have s3 := bB.cell 3
  have s4 := bB.cell 4
  have s5 := bB.cell 5
  have k0 := bC.cell 0
  have k1 := bC.cell 1
  have k2 := bC.cell 2
  have k3 := bC.cell 3
  have k4 := bC.cell 4
  have k5 := bC.cell 5
  have n0 := bC.frozen 0
  have n1 := bC.frozen 1
  have n2 := bC.frozen 2
  have n3 := bC.frozen 3
  have n4 := bC.frozen 4
  have n5 := bC.frozen 5
  simp only [List.getElem?_toArray, List.getElem?_cons_zero, List.getElem?_cons_succ] at s0 s1 s2 s3 s4 s5 k0 k1 k2 k3 k4 k5
  clear r0 r1 r2 r3 r4 r5 g0 g1 g2 g3 g4 g5 x0 x1 x2 x3 x4 x5 f0 f1 f2 f3 FE FP FD FK ho2 hF2
  go_wp2
  (try simp only [Exit.inBlock, Exit.then])
  obtain ⟨wC, hwC⟩ : ∃ wC, wC = (((((wB.setCell ⟨w.heap.size + 1, 0, none⟩ (.slice A3 (fewE l).length c3)).setCell ⟨w.heap.size + 1, 1, none⟩ (.string (fewS pp))).setCell ⟨w.heap.size + 1, 2, none⟩ (.string (fewS dd))).setCell ⟨w.heap.size + 1, 3, none⟩ (.string (fewS key))).setCell ⟨w.heap.size + 1, 4, none⟩ (.int .u64 (id : Nat))).setCell ⟨w.heap.size + 1, 5, none⟩ (.int .i64 m) := ⟨_, rfl⟩
  have bD : Bx wC (w.heap.size + 1) 25 #[.slice A3 (fewE l).length c3, .string (fewS pp), .string (fewS dd), .string (fewS key), .int .u64 (id : Nat), .int .i64 m] := by rw [hwC]; exact (((((bC.set 0 _).set 1 _).set 2 _).set 3 _).set 4 _).set 5 _
  have eC : Ents wC wC.heap.size (.slice A3 (fewE l).length c3) (fewE l) := eB.boxed bC (fun j hj => by rw [hwC]; exact (heap_set _ _ _ _ hj).trans ((heap_set _ _ _ _ hj).trans ((heap_set _ _ _ _ hj).trans ((heap_set _ _ _ _ hj).trans ((heap_set _ _ _ _ hj).trans (heap_set _ _ _ _ hj)))))) (by rw [hwC]; simp)
  have qC : Q w wC := by rw [hwC]; exact Q.set (Q.set (Q.set (Q.set (Q.set (Q.set qB (by omega) _) (by omega) _) (by omega) _) (by omega) _) (by omega) _) (by omega) _
  rw [← hwC]
  have v0 := bD.cell 0
  have v1 := bD.cell 1
  have v2 := bD.cell 2
  have v3 := bD.cell 3
  have v4 := bD.cell 4
  have v5 := bD.cell 5
  simp only [List.getElem?_toArray, List.getElem?_cons_zero, List.getElem?_cons_succ] at v0 v1 v2 v3 v4 v5
  refine bodyPost_ret (v := .agg #[.slice A3 (fewE l).length c3, .string (fewS pp), .string (fewS dd), .string (fewS key), .int .u64 (id : Nat), .int .i64 m]) ?_ rfl ⟨_, rfl, eC, qC⟩
  simp [results, Try.results10, go_sem, v0, v1, v2, v3, v4, v5]
end Go.Proofs.Ytipipjpdlblifaa
