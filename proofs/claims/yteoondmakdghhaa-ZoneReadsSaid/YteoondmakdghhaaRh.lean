/-
  Contract of the document's Same of devices, of two that are the same. The chapter's examples, plainly. Contract of the program's torn. A region that draws its order, loads cells, calls, and at its end stores into the cells that it has loaded: what is loaded is known till operation st, the first of the stores, comes up. Contract of what the program's Crash keeps of a zone.
-/
import Derived.Test.YteoondmakdghhaaRa
import Derived.Test.YteoondmakdghhaaRb
import Derived.Deep.DeepCutAuto
import Derived.Test.YteoondmakdghhaaRf
import Derived.Lib.BufferWrite
import Derived.Deep.RegionHeld
import Derived.BigQuiet
namespace Go.Proofs.Yteoondmakdghhaa
set_option maxRecDepth 100000
open Go.ChangeShapes Go.WideShapes Go.ChangeAt Go.RowKit
set_option linter.unusedVariables false
set_option linter.unusedSimpArgs false
set_option maxRecDepth 100000
set_option maxHeartbeats 8000000 in
theorem dsame_yes (d : Dv) (u v : Value) (w : World) (hl : d.zs.length ≤ 100000) (ok : ∀ z ∈ d.zs, z.b.length ≤ 1000000) (ht : Zns w w.heap.size u d.zs) (hs : Zns w w.heap.size v d.zs) :
    Calls Try.prog 12 #[dvV d u, dvV d v] w fun e w' => e = .returned (.bool true) ∧ Q w w' := by
  obtain ⟨A0, c0, rfl⟩ := ht.form
  obtain ⟨B0, c1, rfl⟩ := hs.form
  have HT := Lib.hid ht
  have HS := Lib.hid hs
  have OK := Lib.hid ok
  clear ht hs ok
  obtain ⟨zs, size, mo, fuel, off, bad⟩ := d
  rw [dvV, dvV]
  simp only at HT HS OK hl ⊢
  have bx := (Bx.new w 24 #[.slice A0 zs.length c0, .int .i64 size, .int .i64 mo, .int .i64 fuel, .bool off, .int .i64 bad]).alloc (.cells #[.slice B0 zs.length c1, .int .i64 size, .int .i64 mo, .int .i64 fuel, .bool off, .int .i64 bad] 24)
  have by_ := Bx.new (w.alloc (.cells #[.slice A0 zs.length c0, .int .i64 size, .int .i64 mo, .int .i64 fuel, .bool off, .int .i64 bad] 24)) 24 #[.slice B0 zs.length c1, .int .i64 size, .int .i64 mo, .int .i64 fuel, .bool off, .int .i64 bad]
  have q0 := ((Q.refl w).alloc (.cells #[.slice A0 zs.length c0, .int .i64 size, .int .i64 mo, .int .i64 fuel, .bool off, .int .i64 bad] 24)).alloc (.cells #[.slice B0 zs.length c1, .int .i64 size, .int .i64 mo, .int .i64 fuel, .bool off, .int .i64 bad] 24)
  rw [World.size_alloc] at by_
  obtain ⟨W0, hW0⟩ : ∃ z, z = (w.alloc (.cells #[.slice A0 zs.length c0, .int .i64 size, .int .i64 mo, .int .i64 fuel, .bool off, .int .i64 bad] 24)).alloc (.cells #[.slice B0 zs.length c1, .int .i64 size, .int .i64 mo, .int .i64 fuel, .bool off, .int .i64 bad] 24) := ⟨_, rfl⟩
  rw [← hW0] at bx by_ q0
  have BX := Lib.hid bx
  have BY := Lib.hid by_
  have Q0 := Lib.hid q0
  obtain ⟨a0, a1, a2, a3, a4, a5⟩ : W0.cell? ⟨w.heap.size, 0, none⟩ = some (.slice A0 zs.length c0) ∧ W0.cell? ⟨w.heap.size, 1, none⟩ = some (.int .i64 size) ∧ W0.cell? ⟨w.heap.size, 2, none⟩ = some (.int .i64 mo) ∧ W0.cell? ⟨w.heap.size, 3, none⟩ = some (.int .i64 fuel) ∧ W0.cell? ⟨w.heap.size, 4, none⟩ = some (.bool off) ∧ W0.cell? ⟨w.heap.size, 5, none⟩ = some (.int .i64 bad) := ⟨bx.cell 0, bx.cell 1, bx.cell 2, bx.cell 3, bx.cell 4, bx.cell 5⟩
  obtain ⟨b0, b1, b2, b3, b4, b5⟩ : W0.cell? ⟨w.heap.size + 1, 0, none⟩ = some (.slice B0 zs.length c1) ∧ W0.cell? ⟨w.heap.size + 1, 1, none⟩ = some (.int .i64 size) ∧ W0.cell? ⟨w.heap.size + 1, 2, none⟩ = some (.int .i64 mo) ∧ W0.cell? ⟨w.heap.size + 1, 3, none⟩ = some (.int .i64 fuel) ∧ W0.cell? ⟨w.heap.size + 1, 4, none⟩ = some (.bool off) ∧ W0.cell? ⟨w.heap.size + 1, 5, none⟩ = some (.int .i64 bad) := ⟨by_.cell 0, by_.cell 1, by_.cell 2, by_.cell 3, by_.cell 4, by_.cell 5⟩
  clear bx by_ q0
  have hbb : (off != off) = false := by simp
  have hll : ((zs.length : Int) != (zs.length : Int)) = false := by simp
  go_enter Try.func12, Try.ntmps12
  go_upto_region 1 with fail
  rw [← hW0]
  clear hW0
  go_wp2_with fail
  clear a0 a1 a2 a3 a4 a5 b0 b1 b2 b3 b4 b5
  go_loopw [5] (fun I wr => ∃ i : Nat, i ≤ zs.length ∧ I = .int .i64 i ∧ Q W0 wr) (fun I _ => zs.length - (intOf I).toNat)
  case atStart => exact ⟨0, Nat.zero_le _, rfl, Q.refl _⟩
  case round =>
    obtain ⟨i, hil, rfl, q⟩ := hrel
    have b0 : wr.cell? ⟨w.heap.size, 0, none⟩ = some (.slice A0 zs.length c0) := (BX.out.on q).cell 0
    by_cases hlt : i < zs.length
    · have hilt : (i : Int) < (zs.length : Int) := by omega
      obtain ⟨a, c2, A1, n1, e1, ha, hok, hat⟩ := HT.out.pick i hlt
      injection e1 with e1 e2 e3
      subst e1 e3
      obtain ⟨b, c3, B1, n2, e4, hb, -, hbt⟩ := HS.out.pick i hlt
      injection e4 with e4 e5 e6
      subst e4 e6
      have hyl := OK.out _ (List.getElem_mem hlt)
      obtain ⟨y, hy⟩ : ∃ y, y = zs[i] := ⟨_, rfl⟩
      rw [← hy] at hat hbt hyl
      have KS : Hid (∀ x, Q wr x → (fun W => W.cell? ⟨w.heap.size, 0, none⟩ = some (.slice (some a) zs.length c0) ∧ W.cell? ⟨w.heap.size + 1, 0, none⟩ = some (.slice (some b) zs.length c1) ∧ W.cell? (a.add (i * 3)) = some (.slice A1 y.b.length n1) ∧ W.cell? ⟨(a.add (i * 3)).block, (a.add (i * 3)).off + 1, none⟩ = some (.int .i64 y.firm) ∧ W.cell? ⟨(a.add (i * 3)).block, (a.add (i * 3)).off + 2, none⟩ = some (.bool y.full) ∧ W.cell? (b.add (i * 3)) = some (.slice B1 y.b.length n2) ∧ W.cell? ⟨(b.add (i * 3)).block, (b.add (i * 3)).off + 1, none⟩ = some (.int .i64 y.firm) ∧ W.cell? ⟨(b.add (i * 3)).block, (b.add (i * 3)).off + 2, none⟩ = some (.bool y.full)) x) := Lib.hid (fun x qx => ⟨(BX.out.on (q.trans qx)).cell 0, (BY.out.on (q.trans qx)).cell 0, (hat x (Q0.out.trans (q.trans qx))).1, (hat x (Q0.out.trans (q.trans qx))).2.1, (hat x (Q0.out.trans (q.trans qx))).2.2.1, (hbt x (Q0.out.trans (q.trans qx))).1, (hbt x (Q0.out.trans (q.trans qx))).2.1, (hbt x (Q0.out.trans (q.trans qx))).2.2.1⟩)
      have HB1 : Hid (∀ x, Q wr x → Txts x x.heap.size (.slice A1 y.b.length n1) y.b) := Lib.hid (fun x qx => (hat x (Q0.out.trans (q.trans qx))).2.2.2.txts)
      have HB2 : Hid (∀ x, Q wr x → Txts x x.heap.size (.slice B1 y.b.length n2) y.b) := Lib.hid (fun x qx => (hbt x (Q0.out.trans (q.trans qx))).2.2.2.txts)
      have SM := Lib.hid (fun (x : World) (u v : Value) (h : Txts x x.heap.size u y.b) (k : Txts x x.heap.size v y.b) => same_any y.b y.b u v x hyl hyl h k)
      have hd : decide (y.b = y.b) = true := by simp
      rw [hd] at SM
      clear hat hbt hy hd
      go_upto_region 6 with fail
      go_cut [6, 7] from 57 to 66 (fun V6 V7 wx => ∃ p6 p7, V6 = .pointer (some ⟨p6, 0, none⟩) ∧ V7 = .pointer (some ⟨p7, 0, none⟩) ∧ Bx wx p6 45 #[.slice A1 y.b.length n1, .int .i64 y.firm, .bool y.full] ∧ Bx wx p7 45 #[.slice B1 y.b.length n2, .int .i64 y.firm, .bool y.full] ∧ Q wr wx)
      case first =>
        have q1 := (Q.refl wr).drew
        refine wp_region_held_drew (S := (fun W => W.cell? ⟨w.heap.size, 0, none⟩ = some (.slice (some a) zs.length c0) ∧ W.cell? ⟨w.heap.size + 1, 0, none⟩ = some (.slice (some b) zs.length c1) ∧ W.cell? (a.add (i * 3)) = some (.slice A1 y.b.length n1) ∧ W.cell? ⟨(a.add (i * 3)).block, (a.add (i * 3)).off + 1, none⟩ = some (.int .i64 y.firm) ∧ W.cell? ⟨(a.add (i * 3)).block, (a.add (i * 3)).off + 2, none⟩ = some (.bool y.full) ∧ W.cell? (b.add (i * 3)) = some (.slice B1 y.b.length n2) ∧ W.cell? ⟨(b.add (i * 3)).block, (b.add (i * 3)).off + 1, none⟩ = some (.int .i64 y.firm) ∧ W.cell? ⟨(b.add (i * 3)).block, (b.add (i * 3)).off + 2, none⟩ = some (.bool y.full))) (by kernel_rfl) (KS.out _ q1) (fun hHeld => ?_)
        refine tkV 0 ?_
        refine tkV 1 ?_
        refine tkV 2 ?_
        refine tkV 3 ?_
        refine tkV 4 ?_
        refine tkV 5 ?_
        refine tkV 6 ?_
        refine tkV 7 ?_
        refine tkV 8 ?_
        refine tkV 9 ?_
        refine aR [10, 11] ?_
        refine AllReadyH.cons (o := _) rfl (fun K hK => ?_) (AllReadyH.cons (o := _) rfl (fun K hK => ?_) AllReadyH.nil)
        · go_simp
          refine hK.out _ _ (KS.out _ (q1.alloc _)) (fun hHeld2 => ?_)
          clear hK K
          refine pg ?_
          refine aR [11] ?_
          refine AllReadyH.cons (o := _) rfl (fun K hK => ?_) AllReadyH.nil
          go_simp
          refine hK.out _ _ (KS.out _ ((q1.alloc _).alloc _)) (fun hHeld3 => ?_)
          clear hK K
          refine pg ?_
          have nn1 := ((Bx.new wr 45 #[.slice none 0 0, .int .i64 0, .bool false]).alloc (.cells #[.slice none 0 0, .int .i64 0, .bool false] 45)).on ((Q.refl _).drew)
          have nn2 := (Bx.new (wr.alloc (.cells #[.slice none 0 0, .int .i64 0, .bool false] 45)) 45 #[.slice none 0 0, .int .i64 0, .bool false]).on ((Q.refl _).drew)
          rw [World.size_alloc] at nn2
          have qA := (((Q.refl wr).alloc (.cells #[.slice none 0 0, .int .i64 0, .bool false] 45)).alloc (.cells #[.slice none 0 0, .int .i64 0, .bool false] 45)).drew
          obtain ⟨WA, hWA⟩ : ∃ z, z = ((wr.alloc (.cells #[.slice none 0 0, .int .i64 0, .bool false] 45)).alloc (.cells #[.slice none 0 0, .int .i64 0, .bool false] 45)).drew := ⟨_, rfl⟩
          rw [← hWA] at nn1 nn2 qA
          rw [← hWA]
          clear hWA
          have x6 : Bx WA wr.heap.size 45 #[.slice none 0 0, .int .i64 0, .bool false] := nn1
          have x7 : Bx WA (wr.heap.size + 1) 45 #[.slice none 0 0, .int .i64 0, .bool false] := nn2
          obtain ⟨c0', c1', c2'⟩ : WA.cell? ⟨wr.heap.size, 0, none⟩ = some (.slice none 0 0) ∧ WA.cell? ⟨wr.heap.size, 1, none⟩ = some (.int .i64 0) ∧ WA.cell? ⟨wr.heap.size, 2, none⟩ = some (.bool false) := ⟨x6.cell 0, x6.cell 1, x6.cell 2⟩
          have f0' := x6.frozen 0
          have f1' := x6.frozen 1
          have f2' := x6.frozen 2
          refine aR [12] ?_
          refine AllReadyH.cons (o := _) rfl (fun K hK => ?_) AllReadyH.nil
          go_simp
          have z6 := ((x6.set 0 (.slice A1 y.b.length n1)).set 1 (.int .i64 y.firm)).set 2 (.bool y.full)
          have z7 := ((x7.other (by omega : _ ≠ wr.heap.size) 0 (.slice A1 y.b.length n1)).other (by omega : _ ≠ wr.heap.size) 1 (.int .i64 y.firm)).other (by omega : _ ≠ wr.heap.size) 2 (.bool y.full)
          have qB : Q wr (((WA.setCell ⟨wr.heap.size, 0, none⟩ (.slice A1 y.b.length n1)).setCell ⟨wr.heap.size, 1, none⟩ (.int .i64 y.firm)).setCell ⟨wr.heap.size, 2, none⟩ (.bool y.full)) := Q.set (Q.set (Q.set qA (by omega) _) (by omega) _) (by omega) _
          simp only [List.setIfInBounds_toArray, List.set_cons_zero, List.set_cons_succ] at z6
          obtain ⟨WB, hWB⟩ : ∃ z, z = ((WA.setCell ⟨wr.heap.size, 0, none⟩ (.slice A1 y.b.length n1)).setCell ⟨wr.heap.size, 1, none⟩ (.int .i64 y.firm)).setCell ⟨wr.heap.size, 2, none⟩ (.bool y.full) := ⟨_, rfl⟩
          rw [← hWB] at z6 z7 qB
          rw [← hWB]
          clear hWB c0' c1' c2' f0' f1' f2'
          refine hK.out _ _ (KS.out _ qB) (fun hHeld4 => ?_)
          clear hK K
          refine pg ?_
          obtain ⟨c0', c1', c2'⟩ : WB.cell? ⟨wr.heap.size + 1, 0, none⟩ = some (.slice none 0 0) ∧ WB.cell? ⟨wr.heap.size + 1, 1, none⟩ = some (.int .i64 0) ∧ WB.cell? ⟨wr.heap.size + 1, 2, none⟩ = some (.bool false) := ⟨z7.cell 0, z7.cell 1, z7.cell 2⟩
          have f0' := z7.frozen 0
          have f1' := z7.frozen 1
          have f2' := z7.frozen 2
          refine aR [13] ?_
          refine AllReadyH.cons (o := _) rfl (fun K hK => ?_) AllReadyH.nil
          go_simp
          have y7 := ((z7.set 0 (.slice B1 y.b.length n2)).set 1 (.int .i64 y.firm)).set 2 (.bool y.full)
          have y6 := ((z6.other (by omega : _ ≠ wr.heap.size + 1) 0 (.slice B1 y.b.length n2)).other (by omega : _ ≠ wr.heap.size + 1) 1 (.int .i64 y.firm)).other (by omega : _ ≠ wr.heap.size + 1) 2 (.bool y.full)
          have qC : Q wr (((WB.setCell ⟨wr.heap.size + 1, 0, none⟩ (.slice B1 y.b.length n2)).setCell ⟨wr.heap.size + 1, 1, none⟩ (.int .i64 y.firm)).setCell ⟨wr.heap.size + 1, 2, none⟩ (.bool y.full)) := Q.set (Q.set (Q.set qB (by omega) _) (by omega) _) (by omega) _
          simp only [List.setIfInBounds_toArray, List.set_cons_zero, List.set_cons_succ] at y7
          obtain ⟨WC, hWC⟩ : ∃ z, z = ((WB.setCell ⟨wr.heap.size + 1, 0, none⟩ (.slice B1 y.b.length n2)).setCell ⟨wr.heap.size + 1, 1, none⟩ (.int .i64 y.firm)).setCell ⟨wr.heap.size + 1, 2, none⟩ (.bool y.full) := ⟨_, rfl⟩
          rw [← hWC] at y7 y6 qC
          rw [← hWC]
          clear hWC c0' c1' c2' f0' f1' f2'
          refine hK.out _ _ (KS.out _ qC) (fun hHeld4 => ?_)
          clear hK K
          refine pg ?_
          refine wpAnyH_done (by kernel_rfl) ?_ _
          go_wp2_with fail
          go_meet
          exact ⟨_, _, rfl, rfl, y6, y7, qC⟩
        · go_simp
          refine hK.out _ _ (KS.out _ (q1.alloc _)) (fun hHeld2 => ?_)
          clear hK K
          refine pg ?_
          refine aR [10] ?_
          refine AllReadyH.cons (o := _) rfl (fun K hK => ?_) AllReadyH.nil
          go_simp
          refine hK.out _ _ (KS.out _ ((q1.alloc _).alloc _)) (fun hHeld3 => ?_)
          clear hK K
          refine pg ?_
          have nn1 := ((Bx.new wr 45 #[.slice none 0 0, .int .i64 0, .bool false]).alloc (.cells #[.slice none 0 0, .int .i64 0, .bool false] 45)).on ((Q.refl _).drew)
          have nn2 := (Bx.new (wr.alloc (.cells #[.slice none 0 0, .int .i64 0, .bool false] 45)) 45 #[.slice none 0 0, .int .i64 0, .bool false]).on ((Q.refl _).drew)
          rw [World.size_alloc] at nn2
          have qA := (((Q.refl wr).alloc (.cells #[.slice none 0 0, .int .i64 0, .bool false] 45)).alloc (.cells #[.slice none 0 0, .int .i64 0, .bool false] 45)).drew
          obtain ⟨WA, hWA⟩ : ∃ z, z = ((wr.alloc (.cells #[.slice none 0 0, .int .i64 0, .bool false] 45)).alloc (.cells #[.slice none 0 0, .int .i64 0, .bool false] 45)).drew := ⟨_, rfl⟩
          rw [← hWA] at nn1 nn2 qA
          rw [← hWA]
          clear hWA
          have x6 : Bx WA (wr.heap.size + 1) 45 #[.slice none 0 0, .int .i64 0, .bool false] := nn2
          have x7 : Bx WA wr.heap.size 45 #[.slice none 0 0, .int .i64 0, .bool false] := nn1
          obtain ⟨c0', c1', c2'⟩ : WA.cell? ⟨wr.heap.size + 1, 0, none⟩ = some (.slice none 0 0) ∧ WA.cell? ⟨wr.heap.size + 1, 1, none⟩ = some (.int .i64 0) ∧ WA.cell? ⟨wr.heap.size + 1, 2, none⟩ = some (.bool false) := ⟨x6.cell 0, x6.cell 1, x6.cell 2⟩
          have f0' := x6.frozen 0
          have f1' := x6.frozen 1
          have f2' := x6.frozen 2
          refine aR [12] ?_
          refine AllReadyH.cons (o := _) rfl (fun K hK => ?_) AllReadyH.nil
          go_simp
          have z6 := ((x6.set 0 (.slice A1 y.b.length n1)).set 1 (.int .i64 y.firm)).set 2 (.bool y.full)
          have z7 := ((x7.other (by omega : _ ≠ wr.heap.size + 1) 0 (.slice A1 y.b.length n1)).other (by omega : _ ≠ wr.heap.size + 1) 1 (.int .i64 y.firm)).other (by omega : _ ≠ wr.heap.size + 1) 2 (.bool y.full)
          have qB : Q wr (((WA.setCell ⟨wr.heap.size + 1, 0, none⟩ (.slice A1 y.b.length n1)).setCell ⟨wr.heap.size + 1, 1, none⟩ (.int .i64 y.firm)).setCell ⟨wr.heap.size + 1, 2, none⟩ (.bool y.full)) := Q.set (Q.set (Q.set qA (by omega) _) (by omega) _) (by omega) _
          simp only [List.setIfInBounds_toArray, List.set_cons_zero, List.set_cons_succ] at z6
          obtain ⟨WB, hWB⟩ : ∃ z, z = ((WA.setCell ⟨wr.heap.size + 1, 0, none⟩ (.slice A1 y.b.length n1)).setCell ⟨wr.heap.size + 1, 1, none⟩ (.int .i64 y.firm)).setCell ⟨wr.heap.size + 1, 2, none⟩ (.bool y.full) := ⟨_, rfl⟩
          rw [← hWB] at z6 z7 qB
          rw [← hWB]
          clear hWB c0' c1' c2' f0' f1' f2'
          refine hK.out _ _ (KS.out _ qB) (fun hHeld4 => ?_)
          clear hK K
          refine pg ?_
          obtain ⟨c0', c1', c2'⟩ : WB.cell? ⟨wr.heap.size, 0, none⟩ = some (.slice none 0 0) ∧ WB.cell? ⟨wr.heap.size, 1, none⟩ = some (.int .i64 0) ∧ WB.cell? ⟨wr.heap.size, 2, none⟩ = some (.bool false) := ⟨z7.cell 0, z7.cell 1, z7.cell 2⟩
          have f0' := z7.frozen 0
          have f1' := z7.frozen 1
          have f2' := z7.frozen 2
          refine aR [13] ?_
          refine AllReadyH.cons (o := _) rfl (fun K hK => ?_) AllReadyH.nil
          go_simp
          have y7 := ((z7.set 0 (.slice B1 y.b.length n2)).set 1 (.int .i64 y.firm)).set 2 (.bool y.full)
          have y6 := ((z6.other (by omega : _ ≠ wr.heap.size) 0 (.slice B1 y.b.length n2)).other (by omega : _ ≠ wr.heap.size) 1 (.int .i64 y.firm)).other (by omega : _ ≠ wr.heap.size) 2 (.bool y.full)
          have qC : Q wr (((WB.setCell ⟨wr.heap.size, 0, none⟩ (.slice B1 y.b.length n2)).setCell ⟨wr.heap.size, 1, none⟩ (.int .i64 y.firm)).setCell ⟨wr.heap.size, 2, none⟩ (.bool y.full)) := Q.set (Q.set (Q.set qB (by omega) _) (by omega) _) (by omega) _
          simp only [List.setIfInBounds_toArray, List.set_cons_zero, List.set_cons_succ] at y7
          obtain ⟨WC, hWC⟩ : ∃ z, z = ((WB.setCell ⟨wr.heap.size, 0, none⟩ (.slice B1 y.b.length n2)).setCell ⟨wr.heap.size, 1, none⟩ (.int .i64 y.firm)).setCell ⟨wr.heap.size, 2, none⟩ (.bool y.full) := ⟨_, rfl⟩
          rw [← hWC] at y7 y6 qC
          rw [← hWC]
          clear hWC c0' c1' c2' f0' f1' f2'
          refine hK.out _ _ (KS.out _ qC) (fun hHeld4 => ?_)
          clear hK K
          refine pg ?_
          refine wpAnyH_done (by kernel_rfl) ?_ _
          go_wp2_with fail
          go_meet
          exact ⟨_, _, rfl, rfl, y6, y7, qC⟩
      case rest =>
        obtain ⟨p6, p7, rfl, rfl, x6, x7, qc⟩ := hcut
        obtain ⟨m0, m1, m2⟩ : wc.cell? ⟨p6, 0, none⟩ = some (.slice A1 y.b.length n1) ∧ wc.cell? ⟨p6, 1, none⟩ = some (.int .i64 y.firm) ∧ wc.cell? ⟨p6, 2, none⟩ = some (.bool y.full) := ⟨x6.cell 0, x6.cell 1, x6.cell 2⟩
        obtain ⟨o0, o1, o2⟩ : wc.cell? ⟨p7, 0, none⟩ = some (.slice B1 y.b.length n2) ∧ wc.cell? ⟨p7, 1, none⟩ = some (.int .i64 y.firm) ∧ wc.cell? ⟨p7, 2, none⟩ = some (.bool y.full) := ⟨x7.cell 0, x7.cell 1, x7.cell 2⟩
        have hff : (y.full != y.full) = false := by simp
        have t1 := HB1.out _ qc
        have t2 := HB2.out _ qc
        clear x6 x7
        go_wp2_with fail
        refine (SM.out _ _ _ t1 t2).mono ?_
        rintro e w5 ⟨rfl, q5⟩
        go_wp2_with fail
        go_roundw
        case rel => exact ⟨i + 1, by omega, by go_num, q.trans (qc.trans q5)⟩
        case measure => simp [intOf]; omega
    · have h2 : ¬ (i : Int) < (zs.length : Int) := by omega
      go_wp2_with fail
      go_ret
      exact ⟨rfl, Q0.out.trans q⟩
end Go.Proofs.Yteoondmakdghhaa

namespace Go.Proofs.Yteoondmakdghhaa
set_option maxRecDepth 100000
open Go.ChangeShapes Go.WideShapes Go.ChangeAt Go.RowKit
def aw0 : Dv := (newD 2 3 1).1
def awA : Dv := (appD aw0 0 (octsB 120 1)).1
def awB : Dv := (appD awA 0 (octsB 121 2)).1
def awC : Dv := (appD awB 0 (octsB 122 1)).1
def awK : Dv := (fluD awA).1
def awL : Dv := crashD awA ⟨[], 0, 0⟩
def awM : Dv := crashD awK ⟨[], 0, 0⟩
theorem aw_new : newD 2 3 1 = (aw0, 0) := Prod.ext rfl (by decide +kernel)
theorem aw_a : appD aw0 0 (octsB 120 1) = (awA, 0) := Prod.ext rfl (by decide +kernel)
theorem aw_b : appD awA 0 (octsB 121 2) = (awB, 0) := Prod.ext rfl (by decide +kernel)
theorem aw_c : appD awB 0 (octsB 122 1) = (awC, 8) := Prod.ext rfl (by decide +kernel)
theorem aw_k : fluD awA = (awK, 0) := Prod.ext rfl (by decide +kernel)
deriving instance DecidableEq for Zn
deriving instance DecidableEq for Dv
theorem aw_lost : awL = aw0 := by decide +kernel
theorem aw_bl : awB.zs.length = 2 := by decide +kernel
theorem aw_bf : (awB.zs[0]'(by rw [aw_bl]; decide)).full = true := by decide +kernel
theorem aw_cb : awC.bad = 1 := by decide +kernel
theorem aw_ml : awM.zs.length = 2 := by decide +kernel
theorem aw_mf : (awM.zs[0]'(by rw [aw_ml]; decide)).full = true := by decide +kernel
theorem aw_sm0 : aw0.zs.length ≤ 41 ∧ ∀ z ∈ aw0.zs, z.b.length ≤ 301 := by decide +kernel
theorem aw_smA : awA.zs.length ≤ 41 ∧ ∀ z ∈ awA.zs, z.b.length ≤ 301 := by decide +kernel
theorem aw_smB : awB.zs.length ≤ 41 ∧ ∀ z ∈ awB.zs, z.b.length ≤ 301 := by decide +kernel
theorem aw_smK : awK.zs.length ≤ 41 ∧ ∀ z ∈ awK.zs, z.b.length ≤ 301 := by decide +kernel
theorem aw_smL : awL.zs.length ≤ 41 ∧ ∀ z ∈ awL.zs, z.b.length ≤ 301 := by decide +kernel
theorem aw_ok0 : (-9223372036854775808 ≤ aw0.fuel ∧ aw0.fuel ≤ 9223372036854775807) ∧ (-9223372036854775808 ≤ aw0.bad ∧ aw0.bad ≤ 9223372036854775807) := by decide +kernel
theorem aw_okA : (-9223372036854775808 ≤ awA.fuel ∧ awA.fuel ≤ 9223372036854775807) ∧ (-9223372036854775808 ≤ awA.bad ∧ awA.bad ≤ 9223372036854775807) := by decide +kernel
theorem aw_okB : (-9223372036854775808 ≤ awB.fuel ∧ awB.fuel ≤ 9223372036854775807) ∧ (-9223372036854775808 ≤ awB.bad ∧ awB.bad ≤ 9223372036854775807) := by decide +kernel
end Go.Proofs.Yteoondmakdghhaa

namespace Go.Proofs.Yteoondmakdghhaa
set_option maxRecDepth 100000
open Go.ChangeShapes Go.WideShapes Go.ChangeAt Go.RowKit
set_option linter.unusedVariables false
set_option linter.unusedSimpArgs false
set_option maxRecDepth 100000
theorem made_u8 (n : Nat) : madeCells (Value.int .u8 0).cells (n * 1) = (List.replicate n (Value.int .u8 0)).toArray := by
  rw [Nat.mul_one]
  apply Array.ext'
  rw [show (Value.int IntKind.u8 0).cells = #[Value.int IntKind.u8 0] by rfl, toList_madeCells_one]
theorem wpList_copy_str {w : World} {ops : Array Oper} {rest : List Oper} {o : Oper} {a : Act} {Q' : Exit → Act → World → Prop} (hgd : o.guard = none) (d s : Operand)
    (ho : o.op = .call { callee := .builtin .copy, args := #[d, s], argTypes := #[65, 9] }) (g n : Nat) (t : ByteArray) (hd : a.eval d = .slice (some ⟨g, 0, none⟩) n n) (hs : a.eval s = .string t)
    (hg : Hid (Bx w g 5 (List.replicate n (Value.int .u8 0)).toArray)) (hn : t.size ≤ n)
    (h : ∀ w', Hid (Bx w' g 5 (Lib.byteCells (bl t ++ List.replicate (n - t.size) 0)).toArray) → Hid (Kp g w w') → wpList Try.prog ops Q' rest (a.put o.dst (goInt t.size)) w') :
    wpList Try.prog ops Q' (o :: rest) a w := by
  refine wpList_plain hgd fun K hK => ?_
  have hrun := Lib.run_copy_row_string (P := Try.prog) w 65 9 o.type 5 g 0 n n t _ 5 Try.underlying65 (by kernel_rfl) hg.out hn (by simp; exact hn)
  have e : (List.take 0 (List.replicate n (Value.int .u8 0)) ++ Lib.byteCells t.data.toList ++ List.drop (0 + t.size) (List.replicate n (Value.int .u8 0))) = Lib.byteCells (bl t ++ List.replicate (n - t.size) 0) := by
    rw [Lib.byteCells_append, List.take_zero, List.nil_append, Nat.zero_add, List.drop_replicate]
    congr 1
    simp [Lib.byteCells]
  simp only [e] at hrun
  unfold Oper.wp
  simp [execOp, ho, resolve, invoke, builtin, hd, hs, hrun, Result.andThen]
  exact hK _ _ (h _ (Lib.hid (setRow_heap w g _ _ _ _ hg.out)) (Lib.hid ⟨rfl, rfl, rfl, by simp, fun k _ hk => setRow_other w g k _ (fun e => hk (by rw [e]))⟩))
theorem conv_bx {w : World} {g : Nat} {l : List UInt8} {n : Nat} (h : Bx w g 5 (Lib.byteCells l).toArray) (hn : n = l.length) :
    (convert 65 9 (.slice (some ⟨g, 0, none⟩) n n)).run Try.prog w = .ok (.string (mk l)) w := by
  subst hn
  exact run_convert_bytes_back (P := Try.prog) w 65 9 5 ⟨g, 0, none⟩ l.length l Try.underlying65 Try.underlying5 Try.underlying9 (fun j hj => by
    rw [add_flat, h.cell]
    simp [Lib.byteCells, hj])
set_option maxHeartbeats 4000000 in
theorem torn_any (t : ByteArray) (c : Int) (w : World) (ht : t.size = 64) (hc : 0 < c) : Calls Try.prog 29 #[.string t, .int .i64 c] w fun e w' => e = .returned (.string (tearB t c)) ∧ Q w w' := by
  obtain ⟨m, hm⟩ : ∃ m : Nat, m = min c.toNat 64 := ⟨_, rfl⟩
  have HV : Hid (tearB t c = mk (bl (t.extract 0 m) ++ List.replicate (64 - (t.extract 0 m).size) 0)) := Lib.hid (by
    unfold tearB
    congr 1
    have hlen : (bl t).length = 64 := by rw [bl_length, ht]
    have e1 : bl (t.extract 0 m) = (bl t).take c.toNat := by
      rw [bl_extract, List.drop_zero, Nat.sub_zero, hm]
      by_cases h : c.toNat ≤ 64
      · rw [Nat.min_eq_left h]
      · rw [Nat.min_eq_right (by omega), List.take_of_length_le (by omega), List.take_of_length_le (by omega)]
    rw [e1, ← bl_length, e1, List.length_take, hlen]
    congr 2
    omega)
  have hsz : (t.extract 0 m).size ≤ 64 := by rw [size_cut _ (by omega)]; omega
  have hszl : Hid (64 = (bl (t.extract 0 m) ++ List.replicate (64 - (t.extract 0 m).size) (0 : UInt8)).length) := Lib.hid (by rw [List.length_append, bl_length, List.length_replicate]; omega)
  have hmt : m ≤ t.size := by omega
  have hmt' : (m : Int) ≤ (t.size : Int) := by omega
  have hts : (t.size : Int) = 64 := by omega
  by_cases hle : c ≤ 64
  · have hcm : c = (m : Int) := by omega
    clear hm
    subst hcm
    have hmm : (m : Int) ≤ 64 := hle
    go_enter Try.func29, Try.ntmps29
    go_wp2_with (at_make; refine wpList_make_bx _ rfl _ _ 65 rfl 5 (.int .u8 0) 1 1 Try.underlying65 info_u8 .i64 .i64 _ _ 64 rfl rfl rfl rfl (by omega) (by unfold maxLen; omega) ?_; intro w4 hB hQ hS; refine Hid.out ?_)
    refine Lib.hid ?_
    rw [made_u8] at hB
    obtain ⟨g, hg⟩ : ∃ g, g = w.heap.size := ⟨_, rfl⟩
    rw [← hg] at hB ⊢
    have HG := Lib.hid hg
    clear hg
    go_wp2_with (with_reducible refine wpList_copy_str rfl (.tmp 7) (.tmp 13) rfl g 64 (t.extract 0 m) rfl rfl hB hsz ?_; intro w5 hB5 hK5; refine Hid.out ?_)
    refine Lib.hid ?_
    have hcv := conv_bx hB5.out hszl.out
    rw [← HV.out] at hcv
    go_wp2_with fail
    go_ret
    exact ⟨rfl, Kp.q hQ.out hK5.out (by rw [HG.out]; exact Nat.le_refl _)⟩
  · have hm64 : m = 64 := by omega
    clear hm
    subst hm64
    have hle2 : (64 : Int) < c := by omega
    clear hmt'
    go_enter Try.func29, Try.ntmps29
    go_wp2_with (at_make; refine wpList_make_bx _ rfl _ _ 65 rfl 5 (.int .u8 0) 1 1 Try.underlying65 info_u8 .i64 .i64 _ _ 64 rfl rfl rfl rfl (by omega) (by unfold maxLen; omega) ?_; intro w4 hB hQ hS; refine Hid.out ?_)
    refine Lib.hid ?_
    rw [made_u8] at hB
    obtain ⟨g, hg⟩ : ∃ g, g = w.heap.size := ⟨_, rfl⟩
    rw [← hg] at hB ⊢
    have HG := Lib.hid hg
    clear hg
    go_wp2_with (with_reducible refine wpList_copy_str rfl (.tmp 7) (.tmp 13) rfl g 64 (t.extract 0 64) rfl rfl hB hsz ?_; intro w5 hB5 hK5; refine Hid.out ?_)
    refine Lib.hid ?_
    have hcv := conv_bx hB5.out hszl.out
    rw [← HV.out] at hcv
    go_wp2_with fail
    go_ret
    exact ⟨rfl, Kp.q hQ.out hK5.out (by rw [HG.out]; exact Nat.le_refl _)⟩
end Go.Proofs.Yteoondmakdghhaa

namespace Go.Proofs.Yteoondmakdghhaa
set_option maxRecDepth 100000
open Go.ChangeShapes Go.WideShapes Go.ChangeAt Go.RowKit
set_option linter.unusedVariables false
set_option linter.unusedSimpArgs false
section
variable {P : Program} {ops : Array Oper} {Z : Exit → Act → World → Prop} {md : Region.Mode} {F : World → Prop} {st : Nat}
/-- Till operation st has come up, F holds behind each operation. -/
def Till (P : Program) (md : Region.Mode) (ops : Array Oper) (Z : Exit → Act → World → Prop) (F : World → Prop) (st : Nat) : Nat → Array Bool → Act → World → Prop
  | 0, up, a, w => Region.ready md ops up = [] ∧ Z .normal a w
  | k + 1, up, a, w => (Region.ready md ops up = [] → Z .normal a w) ∧ ∀ i ∈ Region.ready md ops up, wpOp P ops Z i (fun b x => ((up.setIfInBounds i true).getD st true = false → F x) ∧ Till P md ops Z F st k (up.setIfInBounds i true) b x) a w
theorem Till.any : ∀ (k : Nat) (up : Array Bool) (a : Act) (w : World), Till P md ops Z F st k up a w → wpAny P md ops Z k up a w
  | 0, _, _, _, h => h
  | k + 1, _, _, _, h => ⟨h.1, fun i hi => wpOp_mono (fun b x g => Till.any k _ b x g.2) (h.2 i hi)⟩
/-- Operation st waits for operation i. -/
def waitsB (ops : Array Oper) (md : Region.Mode) (st i : Nat) : Bool := match ops[st]? with
  | some o => o.after.any fun e => Region.binds md e && e.on == i
  | none => false
theorem till_begin {id : Nat} {a : Act} {w : World} (hm : P.follows .mixedOrders = true) (hF : F w.drew) (h : F w.drew → Till P .any ops Z F st ops.size (Array.replicate ops.size false) a w.drew) : (Code.region id ops true).wp P Z a w :=
  wp_region_any hm (Till.any _ _ _ _ (h hF))
theorem Till.first {i : Nat} {o : Oper} {v : Value} (hi : ops[i]? = some o) (hsel : ∀ (j : Nat) (x : Oper) cs b, ops[j]? = some x → x.op ≠ .select cs b) (hwait : waitsB ops md st i = true)
    (hZ : ∀ c a w, Z (.panic c) (a.put o.dst v) w → Z (.panic c) a w) : ∀ (k : Nat) (up : Array Bool) (a : Act) (w : World), up.getD st true = false →
      (∀ j x, ops[j]? = some x → j ≠ i → up.getD j true = false → (∀ e ∈ x.after, Region.binds md e = true → e.on ≠ i) → o.apart ops x = true) →
      i ∈ Region.ready md ops up → YieldsIf P ops F o v a → F w → Till P md ops Z F st k (up.setIfInBounds i true) (a.put o.dst v) w → Till P md ops Z F st (k + 1) up a w := by
  have notYet : ∀ up : Array Bool, i ∈ Region.ready md ops up → ∀ j ∈ Region.ready md ops up, j ≠ i → ∀ x, ops[j]? = some x → ∀ e ∈ x.after, Region.binds md e = true → e.on ≠ i := by
    intro up hr j hj hne x hx e he hb heq
    obtain ⟨h0, -⟩ := mem_ready.1 hr
    obtain ⟨-, y, hy, hall⟩ := mem_ready.1 hj
    rw [hx] at hy
    cases hy
    have h1 := hall e he hb
    rw [heq] at h1
    by_cases hs : i < up.size
    · simp [hs] at h0 h1; rw [h0] at h1; cases h1
    · simp [Array.getElem?_eq_none (Nat.le_of_not_lt hs)] at h1
  have notSt : ∀ up : Array Bool, i ∈ Region.ready md ops up → ∀ j ∈ Region.ready md ops up, j ≠ i → j ≠ st := by
    intro up hr j hj hne e
    subst e
    obtain ⟨-, x, hx, -⟩ := mem_ready.1 hj
    unfold waitsB at hwait
    rw [hx] at hwait
    obtain ⟨e, he, hb⟩ := Array.any_eq_true'.1 hwait
    simp only [Bool.and_eq_true, beq_iff_eq] at hb
    exact notYet up hr _ hj hne x hx e he hb.1 hb.2
  intro k
  induction k with
  | zero =>
    intro up a w hst hfree hr hy hF H
    refine ⟨fun e => (by rw [e] at hr; cases hr), fun j hj => ?_⟩
    by_cases hji : j = i
    · subst hji; exact hy.wpOp hi hF ⟨fun _ => hF, H⟩
    · have := ready_mono hj hji
      rw [H.1] at this; cases this
  | succ k ih =>
    intro up a w hst hfree hr hy hF H
    refine ⟨fun e => (by rw [e] at hr; cases hr), fun j hj => ?_⟩
    by_cases hji : j = i
    · subst hji; exact hy.wpOp hi hF ⟨fun _ => hF, H⟩
    · obtain ⟨hjun, x, hx, -⟩ := mem_ready.1 hj
      have hjst := notSt up hr j hj hji
      have hup : (up.setIfInBounds j true).getD st true = false := by rw [getD_set_ne true hjst]; exact hst
      have hup2 : ((up.setIfInBounds i true).setIfInBounds j true).getD st true = false ∨ i = st := by
        by_cases his : i = st
        · exact .inr his
        · left; rw [getD_set_ne true hjst, getD_set_ne true his]; exact hst
      have step := wpOp_putIf hx (hfree j x hx hji hjun (notYet up hr j hj hji x hx)) (fun cs b => hsel i o cs b hi) (fun cs b => hsel j x cs b hx) hZ hy (H.2 j (ready_mono hj hji))
      have hfree' : ∀ m y, ops[m]? = some y → m ≠ i → (up.setIfInBounds j true).getD m true = false → (∀ e ∈ y.after, Region.binds md e = true → e.on ≠ i) → o.apart ops y = true := by
        intro m y hy2 hmi hun hno
        refine hfree m y hy2 hmi ?_ hno
        by_cases hjm : j = m
        · subst hjm; exact hjun
        · rwa [getD_set_ne true hjm] at hun
      refine wpOp_mono (fun b x' g => ?_) step
      obtain ⟨g1, g2, g3⟩ := g
      have hFx : F x' := by
        rcases hup2 with h | h
        · exact g2 h
        · exfalso
          subst h
          unfold waitsB at hwait
          rw [hi] at hwait
          obtain ⟨e, he, hb⟩ := Array.any_eq_true'.1 hwait
          simp only [Bool.and_eq_true, beq_iff_eq] at hb
          obtain ⟨h0, y, hy2, hall⟩ := mem_ready.1 hr
          rw [hi] at hy2
          cases hy2
          have h1 := hall e he hb.1
          rw [hb.2] at h1
          by_cases hs : i < up.size
          · simp [hs] at h0 h1; rw [h0] at h1; cases h1
          · simp [Array.getElem?_eq_none (Nat.le_of_not_lt hs)] at h1
      refine ⟨fun _ => hFx, ih (up.setIfInBounds j true) b x' hup hfree' (ready_mono hr (Ne.symm hji)) g1 hFx ?_⟩
      rw [Array.setIfInBounds_comm _ _ hji]
      exact g3
theorem till_take {i : Nat} {o : Oper} {v : Value} {k : Nat} {up : Array Bool} {a : Act} {w : World} (hi : ops[i]? = some o) (hs : Region.noSelect ops = true) (hf : Region.free md ops up i = true) (hr : (Region.ready md ops up).contains i = true)
    (hwait : waitsB ops md st i = true) (hst : up.getD st true = false) (hZ : ∀ c a w, Z (.panic c) (a.put o.dst v) w → Z (.panic c) a w) (hy : YieldsIf P ops F o v a) (hF : F w)
    (h : Till P md ops Z F st k (up.setIfInBounds i true) (a.put o.dst v) w) : Till P md ops Z F st (k + 1) up a w :=
  Till.first hi (Region.noSelect_spec hs) hwait hZ k up a w hst (Region.free_spec hi hf) (by simpa using hr) hy hF h
/-- The one that comes up next, ahead of st. -/
theorem till_next {i : Nat} {o : Oper} {k : Nat} {up : Array Bool} {a : Act} {w : World} (hr : Region.ready md ops up = [i]) (ho : ops[i]? = some o)
    (h : ∀ K : Act → World → Prop, Shut (∀ b x, F x → (F x → Till P md ops Z F st k (up.setIfInBounds i true) b x) → K b x) → if Region.wanted o (yielded ops a.tmps) = true then Oper.wp P o a w K Z else K (a.put o.dst undef) w) : Till P md ops Z F st (k + 1) up a w := by
  refine ⟨fun e => (by rw [hr] at e; cases e), fun j hj => ?_⟩
  rw [hr] at hj
  obtain rfl : j = i := by simpa using hj
  exact wpOp_step ho (fun K hK => h K (fun b x hF hW => hK b x ⟨fun _ => hF, hW hF⟩))
/-- The one that comes up next, from st on. -/
theorem till_last {i : Nat} {o : Oper} {k : Nat} {up : Array Bool} {a : Act} {w : World} (hr : Region.ready md ops up = [i]) (ho : ops[i]? = some o) (hst : (up.setIfInBounds i true).getD st true = true)
    (h : ∀ K : Act → World → Prop, Shut (∀ b x, Till P md ops Z F st k (up.setIfInBounds i true) b x → K b x) → if Region.wanted o (yielded ops a.tmps) = true then Oper.wp P o a w K Z else K (a.put o.dst undef) w) : Till P md ops Z F st (k + 1) up a w := by
  refine ⟨fun e => (by rw [hr] at e; cases e), fun j hj => ?_⟩
  rw [hr] at hj
  obtain rfl : j = i := by simpa using hj
  exact wpOp_step ho (fun K hK => h K (fun b x hW => hK b x ⟨fun e => (by rw [hst] at e; cases e), hW⟩))
theorem till_done {up : Array Bool} {a : Act} {w : World} (hr : Region.ready md ops up = []) (h : Z .normal a w) : ∀ k, Till P md ops Z F st k up a w
  | 0 => ⟨hr, h⟩
  | _ + 1 => ⟨fun _ => h, by rw [hr]; simp⟩
end
end Go.Proofs.Yteoondmakdghhaa

namespace Go.Proofs.Yteoondmakdghhaa
set_option maxRecDepth 100000
open Go.ChangeShapes Go.WideShapes Go.ChangeAt Go.RowKit
set_option linter.unusedVariables false
set_option linter.unusedSimpArgs false
set_option maxRecDepth 100000
/-- A slice of ints that is read. -/
def Ints (w : World) (B : Nat) (v : Value) (l : List Int) : Prop :=
  ∃ A c, v = .slice A l.length c ∧ (∀ x ∈ l, okI64 x) ∧ ∀ k (h : k < l.length), ∃ a : Addr, A = some a ∧ a.block < B ∧ w.cell? (a.add k) = some (.int .i64 l[k])
theorem Ints.on {w w' : World} {v : Value} {l : List Int} (h : Ints w w.heap.size v l) (q : Q w w') : Ints w' w'.heap.size v l := by
  obtain ⟨A, c, e, o, f⟩ := h
  refine ⟨A, c, e, o, fun k hk => ?_⟩
  obtain ⟨a, e1, e2, e3⟩ := f k hk
  exact ⟨a, e1, Nat.lt_of_lt_of_le e2 q.size, (q.cell (by rw [add_block]; exact e2)).trans e3⟩
theorem Ints.form {w : World} {B : Nat} {v : Value} {l : List Int} (h : Ints w B v l) : ∃ A c, v = .slice A l.length c := by
  obtain ⟨A, c, e, -⟩ := h; exact ⟨A, c, e⟩
theorem Ints.nil (w : World) (B : Nat) : Ints w B (.slice none 0 0) [] := ⟨none, 0, rfl, by simp, fun k h => absurd h (by simp)⟩
theorem crashB_no {l : Ls} {k : Nat} {x : Zn} (h : ¬ ((k : Int) = l.zone ∧ 0 < l.cut ∧ keptN l k x < x.b.length)) : crashB l k x = x.b.take (keptN l k x) := by
  unfold crashB
  split
  · rename_i hc
    have : x.b.length ≤ keptN l k x := Nat.le_of_not_lt fun e => h ⟨hc.1, hc.2, e⟩
    rw [List.drop_eq_nil_of_le this]; simp
  · simp
theorem crashB_yes {l : Ls} {k : Nat} {x : Zn} (h1 : (k : Int) = l.zone) (h2 : 0 < l.cut) (h3 : keptN l k x < x.b.length) : crashB l k x = (x.b.set (keptN l k x) (tearB x.b[keptN l k x] l.cut)).take (keptN l k x + 1) := by
  unfold crashB
  rw [if_pos ⟨h1, h2⟩, List.drop_eq_getElem_cons h3]
  simp only [List.take_succ_cons, List.take_zero, List.map_cons, List.map_nil]
  rw [List.take_succ_eq_append_getElem (by rw [List.length_set]; exact h3), List.take_set_of_le (Nat.le_refl _)]
  simp
/-- What kept leaves: the blocks, in their row. -/
def KeptC (l : Ls) (k : Nat) (x : Zn) (g : Nat) (w : World) (e : Ending) (w' : World) : Prop :=
  ∃ L : List ByteArray, e = .returned (.slice (some ⟨g, 0, none⟩) (crashB l k x).length x.b.length) ∧ Bx w' g 9 (L.map Value.string).toArray ∧ L.length = x.b.length ∧ L.take (crashB l k x).length = crashB l k x ∧ Kp g w w'
theorem kept_end {l : Ls} {k m : Nat} {x : Zn} {g : Nat} {w w' : World} {L : List ByteArray} (hb : Bx w' g 9 (L.map Value.string).toArray) (hl : L.length = x.b.length) (hm : m ≤ L.length) (hc : crashB l k x = L.take m) (q : Kp g w w') :
    KeptC l k x g w (.returned (.slice (some ⟨g, 0, none⟩) m x.b.length)) w' := by
  have e : (crashB l k x).length = m := by rw [hc, List.length_take]; omega
  exact ⟨L, by rw [e], hb, hl, by rw [e, hc], q⟩
set_option maxHeartbeats 16000000 in
theorem kept_any (k R g n BD BL : Nat) (x : Zn) (P : List (Zn × Value)) (l : Ls) (KA : Option Addr) (kc f : Nat) (size mo fuel bad : Int) (off : Bool) (w : World)
    (hD : Bx w BD 24 #[.slice (some ⟨R, 0, none⟩) n n, .int .i64 size, .int .i64 mo, .int .i64 fuel, .bool off, .int .i64 bad]) (hL : Bx w BL 27 #[.slice KA l.keep.length kc, .int .i64 l.zone, .int .i64 l.cut]) (hK : Ints w w.heap.size (.slice KA l.keep.length kc) l.keep)
    (hz : ZB w R P) (hp : P[k]? = some (x, .slice (some ⟨g, 0, none⟩) x.b.length x.b.length)) (ht : Bx w g 9 (x.b.map Value.string).toArray) (hn : n = P.length) (hn2 : n ≤ 100000) (hlen : x.b.length ≤ 100000) (hf : x.firm = (f : Nat)) (hfl : f ≤ x.b.length) (h64 : ∀ s ∈ x.b, s.size = 64) (hBD : BD < R) (hBL : BL < R) (hRg : R < g) :
    Calls Try.prog 28 #[.int .i64 k, .pointer (some ⟨BD, 0, none⟩), .pointer (some ⟨BL, 0, none⟩)] w (KeptC l k x g w) := by
  obtain ⟨hkP, e⟩ := List.getElem?_eq_some_iff.1 hp
  have y0 := hz.cell k hkP (j := 0) (by omega)
  have y1 := hz.cell k hkP (j := 1) (by omega)
  rw [e] at y0 y1
  simp only [zcl, List.getElem?_cons_zero, List.getElem?_cons_succ, hf, Nat.add_zero] at y0 y1
  have hkn : (k : Int) < (n : Int) := by omega
  have KP : Hid (∀ (m : Nat) (L : List ByteArray) (w' : World), Bx w' g 9 (L.map Value.string).toArray → L.length = x.b.length → m ≤ L.length → crashB l k x = L.take m → Kp g w w' → KeptC l k x g w (.returned (.slice (some ⟨g, 0, none⟩) m x.b.length)) w') := Lib.hid (fun m L w' h1 h2 h3 h4 h5 => kept_end h1 h2 h3 h4 h5)
  have HNO := Lib.hid (@crashB_no l k x)
  have HYES : Hid (∀ (h1 : (k : Int) = l.zone) (h2 : 0 < l.cut) (h3 : keptN l k x < x.b.length), ∃ h : keptN l k x < x.b.length, crashB l k x = (x.b.set (keptN l k x) (tearB x.b[keptN l k x] l.cut)).take (keptN l k x + 1)) := Lib.hid (fun h1 h2 h3 => ⟨h3, crashB_yes h1 h2 h3⟩)
  have HKN : Hid (keptN l k x = min x.b.length (f + (l.keep[k]?.getD 0).toNat)) := Lib.hid (by unfold keptN; rw [hf]; rfl)
  generalize KeptC l k x g w = PO at KP ⊢
  generalize crashB l k x = CB at KP HNO HYES
  obtain ⟨kept, hkept⟩ : ∃ m, m = keptN l k x := ⟨_, rfl⟩
  rw [← hkept] at HNO HYES HKN
  have hkl : kept ≤ x.b.length := by rw [HKN.out]; exact Nat.min_le_left _ _
  obtain ⟨bs, firm, full⟩ := x
  simp only at y0 y1 KP HNO HYES HKN hkl ht hlen hfl h64
  obtain ⟨keep, zone, cut⟩ := l
  simp only at HKN HNO HYES hL hK
  obtain ⟨KA', kc', ek, hko, hkf⟩ := hK
  injection ek with ek1 ek2 ek3
  subst ek1 ek3
  obtain ⟨m, hm⟩ : ∃ m, m = bs.length := ⟨_, rfl⟩
  have HM := Lib.hid hm
  rw [← hm] at y0 KP hlen hfl hkl
  have HT := Lib.hid ht
  have H64 := Lib.hid h64
  have HLO := Lib.hid hL
  have HKF := Lib.hid hkf
  have HKO := Lib.hid hko
  have u0 := hD.cell 0
  simp only [List.getElem?_toArray, List.getElem?_cons_zero] at u0
  have v0 := hL.cell 0
  have v1 := hL.cell 1
  have v2 := hL.cell 2
  simp only [List.getElem?_toArray, List.getElem?_cons_zero, List.getElem?_cons_succ] at v0 v1 v2
  obtain ⟨nk, hnk⟩ : ∃ n, n = keep.length := ⟨_, rfl⟩
  have HNK := Lib.hid hnk
  rw [← hnk] at v0
  clear hm ht h64 hL hD hz hp e hf hkf hko hnk hkept
  go_enter Try.func28, Try.ntmps28
  go_upto_region 1 with fail
  go_cut [5, 6] from 7 to 18 (fun V5 V6 wx => V5 = .slice (some ⟨g, 0, none⟩) m m ∧ V6 = .int .i64 (f : Nat) ∧ wx = w.drew)
  case first =>
    go_wp2_with fail
    go_region
    all_goals (go_wp2_with fail)
    all_goals go_meet
    all_goals exact ⟨rfl, rfl, rfl⟩
  case rest =>
  obtain ⟨rfl, rfl, rfl⟩ := hcut
  go_upto_if 23 with fail
  go_cut [6] from 23 to 36 (fun V6 wx => V6 = .int .i64 (kept : Nat) ∧ wx = w.drew)
  case first =>
    by_cases hkk : k < nk
    · have hkk' : (k : Int) < (nk : Int) := by omega
      have hkl2 : k < keep.length := by rw [← HNK.out]; exact hkk
      obtain ⟨ka, rfl, hka, kcell⟩ := HKF.out k hkl2
      have hko := HKO.out _ (List.getElem_mem hkl2)
      have HK2 : Hid (kept = min bs.length (f + keep[k].toNat)) := Lib.hid (by rw [HKN.out, List.getElem?_eq_getElem hkl2]; rfl)
      obtain ⟨kv, hkv⟩ : ∃ v, v = keep[k] := ⟨_, rfl⟩
      rw [← hkv] at kcell hko HK2
      unfold okI64 at hko
      have HM2 := HM.out
      clear hkv
      by_cases h1 : kv ≤ 0
      · have hst : kept = f := by rw [HK2.out]; omega
        have h2 : ¬ (0 : Int) < kv := by omega
        have h3 : (0 : Int) ≤ (m : Int) - (f : Int) := by omega
        clear HM2
        subst hst
        go_wp2_with fail
        all_goals go_meet
        all_goals exact ⟨by first | rfl | (simp; done) | (congr 1; omega), rfl⟩
      · have h2 : (0 : Int) < kv := by omega
        by_cases h3 : kv ≤ (m : Int) - (f : Int)
        · have hst : (f : Int) + kv = (kept : Int) := by have := HK2.out; omega
          clear HM2
          go_wp2_with fail
          all_goals go_meet
          all_goals exact ⟨by first | rfl | (simp [hst]; done) | (congr 1; omega), rfl⟩
        · have h4 : (m : Int) - (f : Int) < kv := by omega
          have hst : (f : Int) + ((m : Int) - (f : Int)) = (kept : Int) := by have := HK2.out; omega
          clear HM2
          go_wp2_with fail
          all_goals go_meet
          all_goals exact ⟨by first | rfl | (simp [hst]; done) | (congr 1; omega), rfl⟩
    · have hkk' : ¬ (k : Int) < (nk : Int) := by omega
      have hst : kept = f := by
        have h9 := HKN.out
        rw [List.getElem?_eq_none (by rw [← HNK.out]; omega)] at h9
        have := HM.out
        simp at h9; omega
      subst hst
      go_wp2_with fail
      go_meet
      exact ⟨rfl, rfl⟩
  case rest =>
  obtain ⟨rfl, rfl⟩ := hcut
  have NO : Hid (¬ ((k : Int) = zone ∧ 0 < cut ∧ kept < m) → PO (.returned (.slice (some ⟨g, 0, none⟩) kept m)) w.drew) := Lib.hid (fun h => by
    refine KP.out kept bs w.drew (HT.out.on (Q.refl w).drew) HM.out.symm (by rw [← HM.out]; exact hkl) (HNO.out ?_) (Kp.of (Q.refl w).drew)
    rw [← HM.out]; exact h)
  by_cases c1 : (k : Int) = zone
  · by_cases c2 : 0 < cut
    · by_cases c3 : kept < m
      · have c1' : ((k : Int) == zone) = true := by simpa using c1
        have c3' : (kept : Int) < (m : Int) := by omega
        obtain ⟨hkm, hcb⟩ := HYES.out c1 c2 (by rw [← HM.out]; exact c3)
        have hs64 := H64.out _ (List.getElem_mem hkm)
        have z0 : w.cell? ⟨g, kept, none⟩ = some (.string bs[kept]) := by rw [HT.out.cell]; simp [hkm]
        have HPO : Hid (∀ y, Kp g w y → Bx y g 9 (((bs.map Value.string).toArray).setIfInBounds kept (.string (tearB bs[kept] cut))) → PO (.returned (.slice (some ⟨g, 0, none⟩) (kept + 1) m)) y) := Lib.hid (fun y hq hy => by
          refine KP.out (kept + 1) (bs.set kept (tearB bs[kept] cut)) y ?_ (by rw [List.length_set]; exact HM.out.symm) (by rw [List.length_set, ← HM.out]; exact c3) hcb hq
          rw [List.map_set]
          simpa using hy)
        obtain ⟨s0, hs0⟩ : ∃ s, s = bs[kept] := ⟨_, rfl⟩
        rw [← hs0] at hs64 z0 HPO
        have CT := Lib.hid (fun y => torn_any s0 cut y hs64 c2)
        clear hs0 hcb hs64 c1
        have KF : Hid (∀ y, Q w y → (fun W => W.cell? ⟨g, kept, none⟩ = some (.string s0) ∧ W.cell? ⟨BL, 2, none⟩ = some (.int .i64 cut) ∧ Q w W) y) := Lib.hid (fun y q => ⟨by rw [(HT.out.on q).cell]; rw [HT.out.cell] at z0; exact z0, (HLO.out.on q).cell 2, q⟩)
        have HG0 := HT.out.lt
        go_upto_region 5 with fail
        refine till_begin (F := (fun W => W.cell? ⟨g, kept, none⟩ = some (.string s0) ∧ W.cell? ⟨BL, 2, none⟩ = some (.int .i64 cut) ∧ Q w W)) (st := 10) (by kernel_rfl) (KF.out _ ((Q.refl w).drew.drew)) (fun hTill => ?_)
        refine till_take (i := 0) (o := _) (v := ?_) rfl (by kernel_rfl) (by kernel_rfl) (by kernel_rfl) (by kernel_rfl) (by rfl) (fun _ _ _ h => h) (Or.inl ⟨by rfl, ?_⟩) (by assumption) ?_
        rotate_left
        · (intro wx hSw; skip; go_simp; (try with_reducible rfl))
        (try simp only [Act.put, PS])
        refine till_take (i := 1) (o := _) (v := ?_) rfl (by kernel_rfl) (by kernel_rfl) (by kernel_rfl) (by kernel_rfl) (by rfl) (fun _ _ _ h => h) (Or.inl ⟨by rfl, ?_⟩) (by assumption) ?_
        rotate_left
        · (intro wx hSw; skip; go_simp; (try with_reducible rfl))
        (try simp only [Act.put, PS])
        refine till_take (i := 2) (o := _) (v := ?_) rfl (by kernel_rfl) (by kernel_rfl) (by kernel_rfl) (by kernel_rfl) (by rfl) (fun _ _ _ h => h) (Or.inl ⟨by rfl, ?_⟩) (by assumption) ?_
        rotate_left
        · (intro wx hSw; skip; go_simp; (try with_reducible rfl))
        (try simp only [Act.put, PS])
        refine till_take (i := 3) (o := _) (v := ?_) rfl (by kernel_rfl) (by kernel_rfl) (by kernel_rfl) (by kernel_rfl) (by rfl) (fun _ _ _ h => h) (Or.inl ⟨by rfl, ?_⟩) (by assumption) ?_
        rotate_left
        · (intro wx hSw; skip; go_simp; (try with_reducible rfl))
        (try simp only [Act.put, PS])
        refine till_take (i := 4) (o := _) (v := ?_) rfl (by kernel_rfl) (by kernel_rfl) (by kernel_rfl) (by kernel_rfl) (by rfl) (fun _ _ _ h => h) (Or.inl ⟨by rfl, ?_⟩) (by assumption) ?_
        rotate_left
        · (intro wx hSw; skip; go_simp; (try with_reducible rfl))
        (try simp only [Act.put, PS])
        refine till_take (i := 5) (o := _) (v := ?_) rfl (by kernel_rfl) (by kernel_rfl) (by kernel_rfl) (by kernel_rfl) (by rfl) (fun _ _ _ h => h) (Or.inl ⟨by rfl, ?_⟩) (by assumption) ?_
        rotate_left
        · (intro wx hSw; have hz1 := hSw.1; have hz2 := hSw.2.1; go_simp; (try with_reducible rfl))
        (try simp only [Act.put, PS])
        refine till_take (i := 6) (o := _) (v := ?_) rfl (by kernel_rfl) (by kernel_rfl) (by kernel_rfl) (by kernel_rfl) (by rfl) (fun _ _ _ h => h) (Or.inl ⟨by rfl, ?_⟩) (by assumption) ?_
        rotate_left
        · (intro wx hSw; skip; go_simp; (try with_reducible rfl))
        (try simp only [Act.put, PS])
        refine till_take (i := 7) (o := _) (v := ?_) rfl (by kernel_rfl) (by kernel_rfl) (by kernel_rfl) (by kernel_rfl) (by rfl) (fun _ _ _ h => h) (Or.inl ⟨by rfl, ?_⟩) (by assumption) ?_
        rotate_left
        · (intro wx hSw; have hz1 := hSw.1; have hz2 := hSw.2.1; go_simp; (try with_reducible rfl))
        (try simp only [Act.put, PS])
        refine till_next (i := 8) (o := _) (by kernel_rfl) rfl (fun K hK => ?_)
        go_simp
        go_at_call 29
        refine (CT.out _).mono ?_
        rintro e w9 ⟨rfl, d9⟩
        refine hK.out _ _ (KF.out _ ((Q.refl w).drew.drew.trans d9)) (fun hTill => ?_)
        clear hK K
        (try simp only [Act.put, PS])
        have q9 : Q w w9 := (Q.refl w).drew.drew.trans d9
        have b9 := HT.out.on q9
        have z2 := (KF.out _ q9).1
        have zf := b9.frozen kept
        refine till_take (i := 9) (o := _) (v := ?_) rfl (by kernel_rfl) (by kernel_rfl) (by kernel_rfl) (by kernel_rfl) (by rfl) (fun _ _ _ h => h) (Or.inl ⟨by rfl, ?_⟩) (by assumption) ?_
        rotate_left
        · (intro wx hSw; skip; go_simp; (try with_reducible rfl))
        (try simp only [Act.put, PS])
        refine till_last (i := 10) (o := _) (by kernel_rfl) rfl (by rfl) (fun K hK => ?_)
        go_simp
        refine hK.out _ _ ?_
        clear hK K
        (try simp only [Act.put, PS])
        refine till_done (by kernel_rfl) ?_ _
        have bE := b9.set kept (.string (tearB s0 cut))
        have kE : Kp g w (w9.setCell ⟨g, kept, none⟩ (.string (tearB s0 cut))) := (Kp.of q9).set kept _
        generalize w9.setCell ⟨g, kept, none⟩ (.string (tearB s0 cut)) = wE at bE kE ⊢
        clear KF z2 zf
        go_wp2_with fail
        exact HPO.out _ kE bE
      · have c3' : ¬ (kept : Int) < (m : Int) := by omega
        have c1' : ((k : Int) == zone) = true := by simpa using c1
        have hkl' : (kept : Int) ≤ (m : Int) := by omega
        have HN := NO.out (fun h => c3 h.2.2)
        clear c1
        go_wp2_with fail
        exact HN
    · have c1' : ((k : Int) == zone) = true := by simpa using c1
      have hkl' : (kept : Int) ≤ (m : Int) := by omega
      have HN := NO.out (fun h => c2 h.2.1)
      clear c1
      go_wp2_with fail
      exact HN
  · have c1' : ((k : Int) == zone) = false := by simpa using c1
    have HN := NO.out (fun h => c1 h.1)
    clear c1
    go_wp2_with fail
    exact HN
end Go.Proofs.Yteoondmakdghhaa

