/-
  Proved: whatever look ZoneReads is called with, it returns true and leaves what it was given as it was. No condition.
-/
import Derived.Test.YteoondmakdghhaaRk
import Derived.Test.YteoondmakdghhaaRl
import Derived.Deep.DeepCutAuto
namespace Go.Proofs.Yteoondmakdghhaa.zoneReads
set_option maxRecDepth 100000
open Go.ChangeShapes Go.WideShapes Go.ChangeAt Go.RowKit
open Go.ChangeMaps (open_string shut_string)
set_option linter.unusedVariables false
set_option linter.unusedSimpArgs false

theorem crash_sm {d : Dv} (h : smD d) (l : Ls) : smD (crashD d l) := by
  unfold crashD
  split
  · exact ⟨by simp [noDv], by simp [noDv]⟩
  · refine ⟨by simpa using h.1, fun z hz => ?_⟩
    obtain ⟨i, hi, rfl⟩ := List.mem_map.1 hz
    have hi := List.mem_range.1 hi
    refine Nat.le_trans (crashB_len l i _).2.1 (h.2 _ ?_)
    rw [atZn_is hi]
    exact List.getElem_mem hi
theorem newD_yes {z n : Int} (h : 1 ≤ z ∧ z ≤ 40 ∧ 1 ≤ n ∧ n ≤ 300) : newD z n 1 = (⟨List.replicate z.toNat noZn, n, 1, -1, false, 0⟩, 0) := by
  unfold newD
  rw [if_pos ⟨h.1, h.2.1, h.2.2.1, h.2.2.2, by omega⟩]
theorem newD_no {z n : Int} (h : ¬ (1 ≤ z ∧ z ≤ 40 ∧ 1 ≤ n ∧ n ≤ 300)) : newD z n 1 = (noDv, 1) := by
  unfold newD
  rw [if_neg (fun k => h ⟨k.1, k.2.1, k.2.2.1, k.2.2.2.1⟩)]
theorem newD_may {z n : Int} (h : 1 ≤ z ∧ z ≤ 40 ∧ 1 ≤ n ∧ n ≤ 300) : mayD ⟨List.replicate z.toNat noZn, n, 1, -1, false, 0⟩ = true := by
  rw [mayD_iff]
  simp only [List.length_replicate]
  refine ⟨by omega, by omega, by omega, by omega, by omega, by omega, by omega, fun y hy => ?_, by rw [openN_rep]; omega⟩
  rw [List.eq_of_mem_replicate hy, okZn_iff]
  simp [noZn]
  omega
theorem read_c {P : Program} {f : Nat} {args : Array Value} {x : World} {r : List ByteArray × Nat} {b : List ByteArray} {k nb : Nat} (h : Calls P f args x (fun e w' => ∃ v, e = .returned (.tuple #[v, .int .i64 (r.2 : Nat)]) ∧ Blks w' w'.heap.size v r.1 ∧ Q x w')) (hr : r = (b, k)) (hn : nb = b.length) :
    Calls P f args x fun e w' => ∃ A c, e = .returned (.tuple #[.slice A nb c, .int .i64 (k : Nat)]) ∧ Blks w' w'.heap.size (.slice A nb c) b ∧ Q x w' := by
  subst hr hn
  refine h.mono ?_
  rintro e w' ⟨v, rfl, hz, q⟩
  obtain ⟨A, c, rfl⟩ := hz.form
  exact ⟨A, c, rfl, hz, q⟩
set_option maxHeartbeats 16000000 in
set_option maxRecDepth 100000 in
theorem walk (e0 : Dv) (u : Value) (l : Ls) (KV : Value) (z n : Int) (w : World) (ht : Zns w w.heap.size u e0.zs) (od : okD e0) (hk : Ints w w.heap.size KV l.keep) (hz : okI64 z) (hn : okI64 n) (ol : okI64 l.cut) : Calls Try.prog 3 #[lkV e0 u l KV z n] w fun e w' => e = .returned (.bool true) ∧ Q w w' := by
  unfold okI64 at hz hn
  obtain ⟨KA, kc, rfl⟩ := hk.form
  obtain ⟨nk, hnk⟩ : ∃ k, k = l.keep.length := ⟨_, rfl⟩
  obtain ⟨d, hd⟩ : ∃ d, d = fewDv e0 := ⟨_, rfl⟩
  obtain ⟨nd, hnd⟩ : ∃ m, m = d.zs.length := ⟨_, rfl⟩
  have sm : smD d := by rw [hd]; exact fewD_sm e0
  have CF := Lib.hid (fun (y : World) (q : Q w y) => crash_c (d := d) (fewD_any e0 u y od.1 (ht.on q)) hd.symm hnd)
  obtain ⟨b, hb⟩ : ∃ b, b = (readD d z).1 := ⟨_, rfl⟩
  obtain ⟨re, hre⟩ : ∃ k, k = (readD d z).2 := ⟨_, rfl⟩
  obtain ⟨nb, hnb⟩ : ∃ k, k = b.length := ⟨_, rfl⟩
  have CR := Lib.hid (fun (y : World) (v : Value) (h : Zns y y.heap.size v d.zs) => read_c (b := b) (k := re) (readZ_any d v z y sm h) (by rw [hb, hre]) hnb)
  obtain ⟨fd, hfd⟩ : ∃ k, k = (fuelD d n).1 := ⟨_, rfl⟩
  obtain ⟨fe, hfe⟩ : ∃ k, k = (fuelD d n).2 := ⟨_, rfl⟩
  obtain ⟨nf, hnf⟩ : ∃ k, k = fd.zs.length := ⟨_, rfl⟩
  have CU := Lib.hid (fun (y : World) (v : Value) (h : Zns y y.heap.size v d.zs) => dev_c (d := fd) (k := fe) (ki := (fe : Int)) (fuelZ_any d v n y sm h) (by rw [hfd, hfe]) rfl hnf)
  obtain ⟨cd, hcd⟩ : ∃ k, k = crashD d l := ⟨_, rfl⟩
  obtain ⟨nc, hnc⟩ : ∃ k, k = cd.zs.length := ⟨_, rfl⟩
  have smc : smD cd := by rw [hcd]; exact crash_sm sm l
  obtain ⟨zo, hzo⟩ : ∃ k, k = l.zone := ⟨_, rfl⟩
  obtain ⟨cu, hcu⟩ : ∃ k, k = l.cut := ⟨_, rfl⟩
  have CC := Lib.hid (fun (y : World) (v : Value) (h : Zns y y.heap.size v d.zs) (q : Q w y) => crash_c (d := cd) (crashZ_any d v l (.slice KA l.keep.length kc) y sm h (hk.on q)) hcd.symm hnc)
  have CD := Lib.hid (fun (y : World) (v : Value) (h : Zns y y.heap.size v d.zs) (q : Q w y) (hl : okI64 cu) => crash_c (d := cd) (rcrash_any d v l (.slice KA l.keep.length kc) y sm h (hk.on q) (by rw [← hcu]; exact hl)) hcd.symm hnc)
  have CS1 := Lib.hid (fun (y : World) (a v : Value) (h : Zns y y.heap.size a cd.zs) (g : Zns y y.heap.size v cd.zs) => dsame_yes cd a v y (by have := smc.1; omega) (fun s hs => by have := smc.2 s hs; omega) h g)
  rw [lkV, ← hzo, ← hcu, ← hnk]
  rw [← hzo, ← hcu, ← hnk] at CC CD
  simp only [dvV] at CF CR CU CC CD CS1
  have HND := Lib.hid hnd
  have HRB := Lib.hid hb
  have HRE := Lib.hid hre
  have HNB := Lib.hid hnb
  have HFD := Lib.hid hfd
  have HFE := Lib.hid hfe
  have SM := Lib.hid sm
  have HNF := Lib.hid hnf
  have HNC := Lib.hid hnc
  have HOC : Hid (okI64 cu) := Lib.hid (by rw [hcu]; exact ol)
  clear ol hnk hd hnd hnf hnc hcd hzo hcu ht hk od smc sm hb hre hnb hfd hfe
  have b0 := Bx.new w 29 #[u, .int .i64 e0.size, .int .i64 e0.mo, .int .i64 e0.fuel, .bool e0.off, .int .i64 e0.bad, .slice KA nk kc, .int .i64 zo, .int .i64 cu, .int .i64 z, .int .i64 n]
  have q0 := (Q.refl w).alloc (.cells #[u, .int .i64 e0.size, .int .i64 e0.mo, .int .i64 e0.fuel, .bool e0.off, .int .i64 e0.bad, .slice KA nk kc, .int .i64 zo, .int .i64 cu, .int .i64 z, .int .i64 n] 29)
  obtain ⟨W0, hW0⟩ : ∃ zz, zz = w.alloc (.cells #[u, .int .i64 e0.size, .int .i64 e0.mo, .int .i64 e0.fuel, .bool e0.off, .int .i64 e0.bad, .slice KA nk kc, .int .i64 zo, .int .i64 cu, .int .i64 z, .int .i64 n] 29) := ⟨_, rfl⟩
  rw [← hW0] at b0 q0
  have B0 := Lib.hid b0
  have Q0 := Lib.hid q0
  clear b0 q0
  go_enter Try.func3, Try.ntmps3
  go_upto_region 1 with fail
  rw [← hW0]
  clear hW0
  go_cut [3, 4, 5, 6] from 16 to 24 (fun V3 V4 V5 V6 wx => ∃ p q, V3 = .pointer (some ⟨p, 0, none⟩) ∧ V4 = .pointer (some ⟨q, 0, none⟩) ∧ V5 = .int .i64 z ∧ V6 = .int .i64 n ∧ Hid (DB wx p nd d) ∧ Hid (Bx wx q 27 #[.slice KA nk kc, .int .i64 zo, .int .i64 cu]) ∧ Hid (Q w wx))
  case first =>
    have KS : Hid (∀ x, Q W0 x → (fun (W : World) => W.cell? ⟨w.heap.size, 0, none⟩ = some (u) ∧ W.cell? ⟨w.heap.size, 1, none⟩ = some (.int .i64 e0.size) ∧ W.cell? ⟨w.heap.size, 2, none⟩ = some (.int .i64 e0.mo) ∧ W.cell? ⟨w.heap.size, 3, none⟩ = some (.int .i64 e0.fuel) ∧ W.cell? ⟨w.heap.size, 4, none⟩ = some (.bool e0.off) ∧ W.cell? ⟨w.heap.size, 5, none⟩ = some (.int .i64 e0.bad) ∧ W.cell? ⟨w.heap.size, 6, none⟩ = some (.slice KA nk kc) ∧ W.cell? ⟨w.heap.size, 7, none⟩ = some (.int .i64 zo) ∧ W.cell? ⟨w.heap.size, 8, none⟩ = some (.int .i64 cu) ∧ W.cell? ⟨w.heap.size, 9, none⟩ = some (.int .i64 z) ∧ W.cell? ⟨w.heap.size, 10, none⟩ = some (.int .i64 n)) x) := Lib.hid (fun x q => ⟨(B0.out.on q).cell 0, (B0.out.on q).cell 1, (B0.out.on q).cell 2, (B0.out.on q).cell 3, (B0.out.on q).cell 4, (B0.out.on q).cell 5, (B0.out.on q).cell 6, (B0.out.on q).cell 7, (B0.out.on q).cell 8, (B0.out.on q).cell 9, (B0.out.on q).cell 10⟩)
    have q1 := (Q.refl W0).drew
    obtain ⟨wd, hwd⟩ : ∃ z, z = W0.drew := ⟨_, rfl⟩
    refine wp_region_held_drew (S := (fun (W : World) => W.cell? ⟨w.heap.size, 0, none⟩ = some (u) ∧ W.cell? ⟨w.heap.size, 1, none⟩ = some (.int .i64 e0.size) ∧ W.cell? ⟨w.heap.size, 2, none⟩ = some (.int .i64 e0.mo) ∧ W.cell? ⟨w.heap.size, 3, none⟩ = some (.int .i64 e0.fuel) ∧ W.cell? ⟨w.heap.size, 4, none⟩ = some (.bool e0.off) ∧ W.cell? ⟨w.heap.size, 5, none⟩ = some (.int .i64 e0.bad) ∧ W.cell? ⟨w.heap.size, 6, none⟩ = some (.slice KA nk kc) ∧ W.cell? ⟨w.heap.size, 7, none⟩ = some (.int .i64 zo) ∧ W.cell? ⟨w.heap.size, 8, none⟩ = some (.int .i64 cu) ∧ W.cell? ⟨w.heap.size, 9, none⟩ = some (.int .i64 z) ∧ W.cell? ⟨w.heap.size, 10, none⟩ = some (.int .i64 n))) (by kernel_rfl) (KS.out _ q1) (fun hHeld => ?_)
    rw [← hwd] at q1 hHeld ⊢
    clear hwd
    have Qd := Lib.hid q1
    clear q1
    refine tkV 0 ?_
    refine tkV 1 ?_
    refine tkV 3 ?_
    refine tkV 4 ?_
    refine tkV 5 ?_
    refine tkV 6 ?_
    refine tkV 7 ?_
    refine tkV 8 ?_
    refine aR [2, 9, 10] ?_
    refine AllReadyH.cons (o := _) rfl (fun K hK => ?_) (AllReadyH.cons (o := _) rfl (fun K hK => ?_) (AllReadyH.cons (o := _) rfl (fun K hK => ?_) AllReadyH.nil))
    · skip
      go_simp
      go_at_call 9
      refine (CF.out _ (Q0.out.trans Qd.out)).mono ?_
      rintro e w1 ⟨A9, c9, rfl, hz9, q⟩
      have Q1 := Lib.hid (Qd.out.trans q)
      have Z9 := Lib.hid hz9
      clear q hz9
      clear hHeld
      refine hK.out _ _ (KS.out _ Q1.out) (fun hHeld => ?_)
      clear hK K
      refine pg ?_
      refine aR [9, 10] ?_
      refine AllReadyH.cons (o := _) rfl (fun K hK => ?_) (AllReadyH.cons (o := _) rfl (fun K hK => ?_) AllReadyH.nil)
      · skip
        go_simp
        have q := (Q.refl w1).alloc (.cells #[.slice none 0 0, .int .i64 0, .int .i64 0, .int .i64 0, .bool false, .int .i64 0] 24)
        have b := Bx.new w1 24 #[.slice none 0 0, .int .i64 0, .int .i64 0, .int .i64 0, .bool false, .int .i64 0]
        have hp9 := Q1.out.size
        obtain ⟨w2, hw⟩ : ∃ z, z = w1.alloc (.cells #[.slice none 0 0, .int .i64 0, .int .i64 0, .int .i64 0, .bool false, .int .i64 0] 24) := ⟨_, rfl⟩
        rw [← hw] at q b
        rw [← hw]
        clear hw
        obtain ⟨p9, hp⟩ : ∃ z, z = w1.heap.size := ⟨_, rfl⟩
        rw [← hp] at b hp9 ⊢
        clear hp
        have b7 := Lib.hid b
        have Q2 := Lib.hid (Q1.out.trans q)
        have Z9 := Lib.hid (Z9.out.on q)
        clear q b
        clear hHeld
        refine hK.out _ _ (KS.out _ Q2.out) (fun hHeld => ?_)
        clear hK K
        refine pg ?_
        refine aR [10] ?_
        refine AllReadyH.cons (o := _) rfl (fun K hK => ?_) AllReadyH.nil
        · skip
          go_simp
          have q := (Q.refl w2).alloc (.cells #[.slice none 0 0, .int .i64 0, .int .i64 0] 27)
          have b := Bx.new w2 27 #[.slice none 0 0, .int .i64 0, .int .i64 0]
          have hpl := Q2.out.size
          have hnn := b7.out.lt
          obtain ⟨w3, hw⟩ : ∃ z, z = w2.alloc (.cells #[.slice none 0 0, .int .i64 0, .int .i64 0] 27) := ⟨_, rfl⟩
          rw [← hw] at q b
          rw [← hw]
          clear hw
          obtain ⟨pl, hp⟩ : ∃ z, z = w2.heap.size := ⟨_, rfl⟩
          rw [← hp] at b hpl hnn ⊢
          clear hp
          have bl7 := Lib.hid b
          have Q3 := Lib.hid (Q2.out.trans q)
          have Z9 := Lib.hid (Z9.out.on q)
          have b7 := Lib.hid (b7.out.on q)
          have hne : p9 ≠ pl := by omega
          clear hnn
          clear q b
          clear hHeld
          refine hK.out _ _ (KS.out _ Q3.out) (fun hHeld => ?_)
          clear hK K
          refine pg ?_
          have q9 := q_make (A := A9) (n := nd) (c := c9) (d := d) Q3.out hp9
          have b9 := DB.make (d := d) b7.out HND.out Z9.out
          have bl := b_make (A := A9) (n := nd) (c := c9) (d := d) (p := p9) bl7.out hne.symm
          have f0 := b7.out.cell 0
          have f1 := b7.out.cell 1
          have f2 := b7.out.cell 2
          have f3 := b7.out.cell 3
          have f4 := b7.out.cell 4
          have f5 := b7.out.cell 5
          have g0 := b7.out.frozen 0
          have g1 := b7.out.frozen 1
          have g2 := b7.out.frozen 2
          have g3 := b7.out.frozen 3
          have g4 := b7.out.frozen 4
          have g5 := b7.out.frozen 5
          obtain ⟨we, hwe⟩ : ∃ z, z = ((((((w3.setCell ⟨p9, 0, none⟩ (.slice A9 nd c9)).setCell ⟨p9, 1, none⟩ (.int .i64 d.size)).setCell ⟨p9, 2, none⟩ (.int .i64 d.mo)).setCell ⟨p9, 3, none⟩ (.int .i64 d.fuel)).setCell ⟨p9, 4, none⟩ (.bool d.off)).setCell ⟨p9, 5, none⟩ (.int .i64 d.bad)) := ⟨_, rfl⟩
          rw [← hwe] at q9 b9 bl
          have b9h := Lib.hid b9
          have blh := Lib.hid bl
          have q9h := Lib.hid q9
          clear b9 bl q9
          refine aR [11] ?_
          refine AllReadyH.cons (o := _) rfl (fun K hK => ?_) AllReadyH.nil
          go_simp
          rw [← hwe]
          clear hwe f0 f1 f2 f3 f4 f5 g0 g1 g2 g3 g4 g5
          clear hHeld
          refine hK.out _ _ (KS.out _ q9h.out) (fun hHeld => ?_)
          clear hK K
          refine pg ?_
          have f0 := blh.out.cell 0
          have f1 := blh.out.cell 1
          have f2 := blh.out.cell 2
          have g0 := blh.out.frozen 0
          have g1 := blh.out.frozen 1
          have g2 := blh.out.frozen 2
          have b8 := ((blh.out.set 0 (.slice KA nk kc)).set 1 (.int .i64 zo)).set 2 (.int .i64 cu)
          have q8 : Q W0 (((we.setCell ⟨pl, 0, none⟩ (.slice KA nk kc)).setCell ⟨pl, 1, none⟩ (.int .i64 zo)).setCell ⟨pl, 2, none⟩ (.int .i64 cu)) := Q.set (Q.set (Q.set q9h.out hpl _) hpl _) hpl _
          have k8 : ∀ j, j ≠ pl → ((((we.setCell ⟨pl, 0, none⟩ (.slice KA nk kc)).setCell ⟨pl, 1, none⟩ (.int .i64 zo)).setCell ⟨pl, 2, none⟩ (.int .i64 cu))).heap[j]? = we.heap[j]? := fun j hj => (heap_set _ _ _ _ hj).trans ((heap_set _ _ _ _ hj).trans (heap_set _ _ _ _ hj))
          have d8 : DB (((we.setCell ⟨pl, 0, none⟩ (.slice KA nk kc)).setCell ⟨pl, 1, none⟩ (.int .i64 zo)).setCell ⟨pl, 2, none⟩ (.int .i64 cu)) p9 nd d := by
            obtain ⟨A', c', e, b2, z2⟩ := b9h.out
            exact ⟨A', c', e, (k8 p9 hne).trans b2, Zns.offL z2 blh.out k8 (by simp)⟩
          simp only [List.setIfInBounds_toArray, List.set_cons_zero, List.set_cons_succ] at b8
          obtain ⟨wf, hwf⟩ : ∃ z, z = (((we.setCell ⟨pl, 0, none⟩ (.slice KA nk kc)).setCell ⟨pl, 1, none⟩ (.int .i64 zo)).setCell ⟨pl, 2, none⟩ (.int .i64 cu)) := ⟨_, rfl⟩
          rw [← hwf] at b8 q8 d8
          clear k8
          have B8 := Lib.hid b8
          have Q8 := Lib.hid q8
          have D8 := Lib.hid d8
          clear b8 q8 d8
          refine aR [12] ?_
          refine AllReadyH.cons (o := _) rfl (fun K hK => ?_) AllReadyH.nil
          go_simp
          rw [← hwf]
          clear hwf f0 f1 f2 g0 g1 g2
          clear hHeld
          refine hK.out _ _ (KS.out _ Q8.out) (fun hHeld => ?_)
          clear hK K
          refine pg ?_
          refine tkV 13 ?_
          refine tkV 14 ?_
          refine wpAnyH_done (by kernel_rfl) ?_ _
          go_wp2_with fail
          go_meet
          exact ⟨p9, pl, rfl, rfl, rfl, rfl, D8, B8, Lib.hid (Q0.out.trans Q8.out)⟩
      · skip
        go_simp
        have q := (Q.refl w1).alloc (.cells #[.slice none 0 0, .int .i64 0, .int .i64 0] 27)
        have b := Bx.new w1 27 #[.slice none 0 0, .int .i64 0, .int .i64 0]
        have hpl := Q1.out.size
        obtain ⟨w2, hw⟩ : ∃ z, z = w1.alloc (.cells #[.slice none 0 0, .int .i64 0, .int .i64 0] 27) := ⟨_, rfl⟩
        rw [← hw] at q b
        rw [← hw]
        clear hw
        obtain ⟨pl, hp⟩ : ∃ z, z = w1.heap.size := ⟨_, rfl⟩
        rw [← hp] at b hpl ⊢
        clear hp
        have bl7 := Lib.hid b
        have Q2 := Lib.hid (Q1.out.trans q)
        have Z9 := Lib.hid (Z9.out.on q)
        clear q b
        clear hHeld
        refine hK.out _ _ (KS.out _ Q2.out) (fun hHeld => ?_)
        clear hK K
        refine pg ?_
        refine aR [9] ?_
        refine AllReadyH.cons (o := _) rfl (fun K hK => ?_) AllReadyH.nil
        · skip
          go_simp
          have q := (Q.refl w2).alloc (.cells #[.slice none 0 0, .int .i64 0, .int .i64 0, .int .i64 0, .bool false, .int .i64 0] 24)
          have b := Bx.new w2 24 #[.slice none 0 0, .int .i64 0, .int .i64 0, .int .i64 0, .bool false, .int .i64 0]
          have hp9 := Q2.out.size
          have hnn := bl7.out.lt
          obtain ⟨w3, hw⟩ : ∃ z, z = w2.alloc (.cells #[.slice none 0 0, .int .i64 0, .int .i64 0, .int .i64 0, .bool false, .int .i64 0] 24) := ⟨_, rfl⟩
          rw [← hw] at q b
          rw [← hw]
          clear hw
          obtain ⟨p9, hp⟩ : ∃ z, z = w2.heap.size := ⟨_, rfl⟩
          rw [← hp] at b hp9 hnn ⊢
          clear hp
          have b7 := Lib.hid b
          have Q3 := Lib.hid (Q2.out.trans q)
          have Z9 := Lib.hid (Z9.out.on q)
          have bl7 := Lib.hid (bl7.out.on q)
          have hne : p9 ≠ pl := by omega
          clear hnn
          clear q b
          clear hHeld
          refine hK.out _ _ (KS.out _ Q3.out) (fun hHeld => ?_)
          clear hK K
          refine pg ?_
          have q9 := q_make (A := A9) (n := nd) (c := c9) (d := d) Q3.out hp9
          have b9 := DB.make (d := d) b7.out HND.out Z9.out
          have bl := b_make (A := A9) (n := nd) (c := c9) (d := d) (p := p9) bl7.out hne.symm
          have f0 := b7.out.cell 0
          have f1 := b7.out.cell 1
          have f2 := b7.out.cell 2
          have f3 := b7.out.cell 3
          have f4 := b7.out.cell 4
          have f5 := b7.out.cell 5
          have g0 := b7.out.frozen 0
          have g1 := b7.out.frozen 1
          have g2 := b7.out.frozen 2
          have g3 := b7.out.frozen 3
          have g4 := b7.out.frozen 4
          have g5 := b7.out.frozen 5
          obtain ⟨we, hwe⟩ : ∃ z, z = ((((((w3.setCell ⟨p9, 0, none⟩ (.slice A9 nd c9)).setCell ⟨p9, 1, none⟩ (.int .i64 d.size)).setCell ⟨p9, 2, none⟩ (.int .i64 d.mo)).setCell ⟨p9, 3, none⟩ (.int .i64 d.fuel)).setCell ⟨p9, 4, none⟩ (.bool d.off)).setCell ⟨p9, 5, none⟩ (.int .i64 d.bad)) := ⟨_, rfl⟩
          rw [← hwe] at q9 b9 bl
          have b9h := Lib.hid b9
          have blh := Lib.hid bl
          have q9h := Lib.hid q9
          clear b9 bl q9
          refine aR [11] ?_
          refine AllReadyH.cons (o := _) rfl (fun K hK => ?_) AllReadyH.nil
          go_simp
          rw [← hwe]
          clear hwe f0 f1 f2 f3 f4 f5 g0 g1 g2 g3 g4 g5
          clear hHeld
          refine hK.out _ _ (KS.out _ q9h.out) (fun hHeld => ?_)
          clear hK K
          refine pg ?_
          have f0 := blh.out.cell 0
          have f1 := blh.out.cell 1
          have f2 := blh.out.cell 2
          have g0 := blh.out.frozen 0
          have g1 := blh.out.frozen 1
          have g2 := blh.out.frozen 2
          have b8 := ((blh.out.set 0 (.slice KA nk kc)).set 1 (.int .i64 zo)).set 2 (.int .i64 cu)
          have q8 : Q W0 (((we.setCell ⟨pl, 0, none⟩ (.slice KA nk kc)).setCell ⟨pl, 1, none⟩ (.int .i64 zo)).setCell ⟨pl, 2, none⟩ (.int .i64 cu)) := Q.set (Q.set (Q.set q9h.out hpl _) hpl _) hpl _
          have k8 : ∀ j, j ≠ pl → ((((we.setCell ⟨pl, 0, none⟩ (.slice KA nk kc)).setCell ⟨pl, 1, none⟩ (.int .i64 zo)).setCell ⟨pl, 2, none⟩ (.int .i64 cu))).heap[j]? = we.heap[j]? := fun j hj => (heap_set _ _ _ _ hj).trans ((heap_set _ _ _ _ hj).trans (heap_set _ _ _ _ hj))
          have d8 : DB (((we.setCell ⟨pl, 0, none⟩ (.slice KA nk kc)).setCell ⟨pl, 1, none⟩ (.int .i64 zo)).setCell ⟨pl, 2, none⟩ (.int .i64 cu)) p9 nd d := by
            obtain ⟨A', c', e, b2, z2⟩ := b9h.out
            exact ⟨A', c', e, (k8 p9 hne).trans b2, Zns.offL z2 blh.out k8 (by simp)⟩
          simp only [List.setIfInBounds_toArray, List.set_cons_zero, List.set_cons_succ] at b8
          obtain ⟨wf, hwf⟩ : ∃ z, z = (((we.setCell ⟨pl, 0, none⟩ (.slice KA nk kc)).setCell ⟨pl, 1, none⟩ (.int .i64 zo)).setCell ⟨pl, 2, none⟩ (.int .i64 cu)) := ⟨_, rfl⟩
          rw [← hwf] at b8 q8 d8
          clear k8
          have B8 := Lib.hid b8
          have Q8 := Lib.hid q8
          have D8 := Lib.hid d8
          clear b8 q8 d8
          refine aR [12] ?_
          refine AllReadyH.cons (o := _) rfl (fun K hK => ?_) AllReadyH.nil
          go_simp
          rw [← hwf]
          clear hwf f0 f1 f2 g0 g1 g2
          clear hHeld
          refine hK.out _ _ (KS.out _ Q8.out) (fun hHeld => ?_)
          clear hK K
          refine pg ?_
          refine tkV 13 ?_
          refine tkV 14 ?_
          refine wpAnyH_done (by kernel_rfl) ?_ _
          go_wp2_with fail
          go_meet
          exact ⟨p9, pl, rfl, rfl, rfl, rfl, D8, B8, Lib.hid (Q0.out.trans Q8.out)⟩
    · skip
      go_simp
      have q := (Q.refl wd).alloc (.cells #[.slice none 0 0, .int .i64 0, .int .i64 0, .int .i64 0, .bool false, .int .i64 0] 24)
      have b := Bx.new wd 24 #[.slice none 0 0, .int .i64 0, .int .i64 0, .int .i64 0, .bool false, .int .i64 0]
      have hp9 := Qd.out.size
      obtain ⟨w1, hw⟩ : ∃ z, z = wd.alloc (.cells #[.slice none 0 0, .int .i64 0, .int .i64 0, .int .i64 0, .bool false, .int .i64 0] 24) := ⟨_, rfl⟩
      rw [← hw] at q b
      rw [← hw]
      clear hw
      obtain ⟨p9, hp⟩ : ∃ z, z = wd.heap.size := ⟨_, rfl⟩
      rw [← hp] at b hp9 ⊢
      clear hp
      have b7 := Lib.hid b
      have Q1 := Lib.hid (Qd.out.trans q)
      clear q b
      clear hHeld
      refine hK.out _ _ (KS.out _ Q1.out) (fun hHeld => ?_)
      clear hK K
      refine pg ?_
      refine aR [2, 10] ?_
      refine AllReadyH.cons (o := _) rfl (fun K hK => ?_) (AllReadyH.cons (o := _) rfl (fun K hK => ?_) AllReadyH.nil)
      · skip
        go_simp
        go_at_call 9
        refine (CF.out _ (Q0.out.trans Q1.out)).mono ?_
        rintro e w2 ⟨A9, c9, rfl, hz9, q⟩
        have Q2 := Lib.hid (Q1.out.trans q)
        have Z9 := Lib.hid hz9
        have b7 := Lib.hid (b7.out.on q)
        clear q hz9
        clear hHeld
        refine hK.out _ _ (KS.out _ Q2.out) (fun hHeld => ?_)
        clear hK K
        refine pg ?_
        refine aR [10] ?_
        refine AllReadyH.cons (o := _) rfl (fun K hK => ?_) AllReadyH.nil
        · skip
          go_simp
          have q := (Q.refl w2).alloc (.cells #[.slice none 0 0, .int .i64 0, .int .i64 0] 27)
          have b := Bx.new w2 27 #[.slice none 0 0, .int .i64 0, .int .i64 0]
          have hpl := Q2.out.size
          have hnn := b7.out.lt
          obtain ⟨w3, hw⟩ : ∃ z, z = w2.alloc (.cells #[.slice none 0 0, .int .i64 0, .int .i64 0] 27) := ⟨_, rfl⟩
          rw [← hw] at q b
          rw [← hw]
          clear hw
          obtain ⟨pl, hp⟩ : ∃ z, z = w2.heap.size := ⟨_, rfl⟩
          rw [← hp] at b hpl hnn ⊢
          clear hp
          have bl7 := Lib.hid b
          have Q3 := Lib.hid (Q2.out.trans q)
          have Z9 := Lib.hid (Z9.out.on q)
          have b7 := Lib.hid (b7.out.on q)
          have hne : p9 ≠ pl := by omega
          clear hnn
          clear q b
          clear hHeld
          refine hK.out _ _ (KS.out _ Q3.out) (fun hHeld => ?_)
          clear hK K
          refine pg ?_
          have q9 := q_make (A := A9) (n := nd) (c := c9) (d := d) Q3.out hp9
          have b9 := DB.make (d := d) b7.out HND.out Z9.out
          have bl := b_make (A := A9) (n := nd) (c := c9) (d := d) (p := p9) bl7.out hne.symm
          have f0 := b7.out.cell 0
          have f1 := b7.out.cell 1
          have f2 := b7.out.cell 2
          have f3 := b7.out.cell 3
          have f4 := b7.out.cell 4
          have f5 := b7.out.cell 5
          have g0 := b7.out.frozen 0
          have g1 := b7.out.frozen 1
          have g2 := b7.out.frozen 2
          have g3 := b7.out.frozen 3
          have g4 := b7.out.frozen 4
          have g5 := b7.out.frozen 5
          obtain ⟨we, hwe⟩ : ∃ z, z = ((((((w3.setCell ⟨p9, 0, none⟩ (.slice A9 nd c9)).setCell ⟨p9, 1, none⟩ (.int .i64 d.size)).setCell ⟨p9, 2, none⟩ (.int .i64 d.mo)).setCell ⟨p9, 3, none⟩ (.int .i64 d.fuel)).setCell ⟨p9, 4, none⟩ (.bool d.off)).setCell ⟨p9, 5, none⟩ (.int .i64 d.bad)) := ⟨_, rfl⟩
          rw [← hwe] at q9 b9 bl
          have b9h := Lib.hid b9
          have blh := Lib.hid bl
          have q9h := Lib.hid q9
          clear b9 bl q9
          refine aR [11] ?_
          refine AllReadyH.cons (o := _) rfl (fun K hK => ?_) AllReadyH.nil
          go_simp
          rw [← hwe]
          clear hwe f0 f1 f2 f3 f4 f5 g0 g1 g2 g3 g4 g5
          clear hHeld
          refine hK.out _ _ (KS.out _ q9h.out) (fun hHeld => ?_)
          clear hK K
          refine pg ?_
          have f0 := blh.out.cell 0
          have f1 := blh.out.cell 1
          have f2 := blh.out.cell 2
          have g0 := blh.out.frozen 0
          have g1 := blh.out.frozen 1
          have g2 := blh.out.frozen 2
          have b8 := ((blh.out.set 0 (.slice KA nk kc)).set 1 (.int .i64 zo)).set 2 (.int .i64 cu)
          have q8 : Q W0 (((we.setCell ⟨pl, 0, none⟩ (.slice KA nk kc)).setCell ⟨pl, 1, none⟩ (.int .i64 zo)).setCell ⟨pl, 2, none⟩ (.int .i64 cu)) := Q.set (Q.set (Q.set q9h.out hpl _) hpl _) hpl _
          have k8 : ∀ j, j ≠ pl → ((((we.setCell ⟨pl, 0, none⟩ (.slice KA nk kc)).setCell ⟨pl, 1, none⟩ (.int .i64 zo)).setCell ⟨pl, 2, none⟩ (.int .i64 cu))).heap[j]? = we.heap[j]? := fun j hj => (heap_set _ _ _ _ hj).trans ((heap_set _ _ _ _ hj).trans (heap_set _ _ _ _ hj))
          have d8 : DB (((we.setCell ⟨pl, 0, none⟩ (.slice KA nk kc)).setCell ⟨pl, 1, none⟩ (.int .i64 zo)).setCell ⟨pl, 2, none⟩ (.int .i64 cu)) p9 nd d := by
            obtain ⟨A', c', e, b2, z2⟩ := b9h.out
            exact ⟨A', c', e, (k8 p9 hne).trans b2, Zns.offL z2 blh.out k8 (by simp)⟩
          simp only [List.setIfInBounds_toArray, List.set_cons_zero, List.set_cons_succ] at b8
          obtain ⟨wf, hwf⟩ : ∃ z, z = (((we.setCell ⟨pl, 0, none⟩ (.slice KA nk kc)).setCell ⟨pl, 1, none⟩ (.int .i64 zo)).setCell ⟨pl, 2, none⟩ (.int .i64 cu)) := ⟨_, rfl⟩
          rw [← hwf] at b8 q8 d8
          clear k8
          have B8 := Lib.hid b8
          have Q8 := Lib.hid q8
          have D8 := Lib.hid d8
          clear b8 q8 d8
          refine aR [12] ?_
          refine AllReadyH.cons (o := _) rfl (fun K hK => ?_) AllReadyH.nil
          go_simp
          rw [← hwf]
          clear hwf f0 f1 f2 g0 g1 g2
          clear hHeld
          refine hK.out _ _ (KS.out _ Q8.out) (fun hHeld => ?_)
          clear hK K
          refine pg ?_
          refine tkV 13 ?_
          refine tkV 14 ?_
          refine wpAnyH_done (by kernel_rfl) ?_ _
          go_wp2_with fail
          go_meet
          exact ⟨p9, pl, rfl, rfl, rfl, rfl, D8, B8, Lib.hid (Q0.out.trans Q8.out)⟩
      · skip
        go_simp
        have q := (Q.refl w1).alloc (.cells #[.slice none 0 0, .int .i64 0, .int .i64 0] 27)
        have b := Bx.new w1 27 #[.slice none 0 0, .int .i64 0, .int .i64 0]
        have hpl := Q1.out.size
        have hnn := b7.out.lt
        obtain ⟨w2, hw⟩ : ∃ z, z = w1.alloc (.cells #[.slice none 0 0, .int .i64 0, .int .i64 0] 27) := ⟨_, rfl⟩
        rw [← hw] at q b
        rw [← hw]
        clear hw
        obtain ⟨pl, hp⟩ : ∃ z, z = w1.heap.size := ⟨_, rfl⟩
        rw [← hp] at b hpl hnn ⊢
        clear hp
        have bl7 := Lib.hid b
        have Q2 := Lib.hid (Q1.out.trans q)
        have b7 := Lib.hid (b7.out.on q)
        have hne : p9 ≠ pl := by omega
        clear hnn
        clear q b
        clear hHeld
        refine hK.out _ _ (KS.out _ Q2.out) (fun hHeld => ?_)
        clear hK K
        refine pg ?_
        refine aR [2] ?_
        refine AllReadyH.cons (o := _) rfl (fun K hK => ?_) AllReadyH.nil
        · skip
          go_simp
          go_at_call 9
          refine (CF.out _ (Q0.out.trans Q2.out)).mono ?_
          rintro e w3 ⟨A9, c9, rfl, hz9, q⟩
          have Q3 := Lib.hid (Q2.out.trans q)
          have Z9 := Lib.hid hz9
          have b7 := Lib.hid (b7.out.on q)
          have bl7 := Lib.hid (bl7.out.on q)
          clear q hz9
          clear hHeld
          refine hK.out _ _ (KS.out _ Q3.out) (fun hHeld => ?_)
          clear hK K
          refine pg ?_
          have q9 := q_make (A := A9) (n := nd) (c := c9) (d := d) Q3.out hp9
          have b9 := DB.make (d := d) b7.out HND.out Z9.out
          have bl := b_make (A := A9) (n := nd) (c := c9) (d := d) (p := p9) bl7.out hne.symm
          have f0 := b7.out.cell 0
          have f1 := b7.out.cell 1
          have f2 := b7.out.cell 2
          have f3 := b7.out.cell 3
          have f4 := b7.out.cell 4
          have f5 := b7.out.cell 5
          have g0 := b7.out.frozen 0
          have g1 := b7.out.frozen 1
          have g2 := b7.out.frozen 2
          have g3 := b7.out.frozen 3
          have g4 := b7.out.frozen 4
          have g5 := b7.out.frozen 5
          obtain ⟨we, hwe⟩ : ∃ z, z = ((((((w3.setCell ⟨p9, 0, none⟩ (.slice A9 nd c9)).setCell ⟨p9, 1, none⟩ (.int .i64 d.size)).setCell ⟨p9, 2, none⟩ (.int .i64 d.mo)).setCell ⟨p9, 3, none⟩ (.int .i64 d.fuel)).setCell ⟨p9, 4, none⟩ (.bool d.off)).setCell ⟨p9, 5, none⟩ (.int .i64 d.bad)) := ⟨_, rfl⟩
          rw [← hwe] at q9 b9 bl
          have b9h := Lib.hid b9
          have blh := Lib.hid bl
          have q9h := Lib.hid q9
          clear b9 bl q9
          refine aR [11] ?_
          refine AllReadyH.cons (o := _) rfl (fun K hK => ?_) AllReadyH.nil
          go_simp
          rw [← hwe]
          clear hwe f0 f1 f2 f3 f4 f5 g0 g1 g2 g3 g4 g5
          clear hHeld
          refine hK.out _ _ (KS.out _ q9h.out) (fun hHeld => ?_)
          clear hK K
          refine pg ?_
          have f0 := blh.out.cell 0
          have f1 := blh.out.cell 1
          have f2 := blh.out.cell 2
          have g0 := blh.out.frozen 0
          have g1 := blh.out.frozen 1
          have g2 := blh.out.frozen 2
          have b8 := ((blh.out.set 0 (.slice KA nk kc)).set 1 (.int .i64 zo)).set 2 (.int .i64 cu)
          have q8 : Q W0 (((we.setCell ⟨pl, 0, none⟩ (.slice KA nk kc)).setCell ⟨pl, 1, none⟩ (.int .i64 zo)).setCell ⟨pl, 2, none⟩ (.int .i64 cu)) := Q.set (Q.set (Q.set q9h.out hpl _) hpl _) hpl _
          have k8 : ∀ j, j ≠ pl → ((((we.setCell ⟨pl, 0, none⟩ (.slice KA nk kc)).setCell ⟨pl, 1, none⟩ (.int .i64 zo)).setCell ⟨pl, 2, none⟩ (.int .i64 cu))).heap[j]? = we.heap[j]? := fun j hj => (heap_set _ _ _ _ hj).trans ((heap_set _ _ _ _ hj).trans (heap_set _ _ _ _ hj))
          have d8 : DB (((we.setCell ⟨pl, 0, none⟩ (.slice KA nk kc)).setCell ⟨pl, 1, none⟩ (.int .i64 zo)).setCell ⟨pl, 2, none⟩ (.int .i64 cu)) p9 nd d := by
            obtain ⟨A', c', e, b2, z2⟩ := b9h.out
            exact ⟨A', c', e, (k8 p9 hne).trans b2, Zns.offL z2 blh.out k8 (by simp)⟩
          simp only [List.setIfInBounds_toArray, List.set_cons_zero, List.set_cons_succ] at b8
          obtain ⟨wf, hwf⟩ : ∃ z, z = (((we.setCell ⟨pl, 0, none⟩ (.slice KA nk kc)).setCell ⟨pl, 1, none⟩ (.int .i64 zo)).setCell ⟨pl, 2, none⟩ (.int .i64 cu)) := ⟨_, rfl⟩
          rw [← hwf] at b8 q8 d8
          clear k8
          have B8 := Lib.hid b8
          have Q8 := Lib.hid q8
          have D8 := Lib.hid d8
          clear b8 q8 d8
          refine aR [12] ?_
          refine AllReadyH.cons (o := _) rfl (fun K hK => ?_) AllReadyH.nil
          go_simp
          rw [← hwf]
          clear hwf f0 f1 f2 g0 g1 g2
          clear hHeld
          refine hK.out _ _ (KS.out _ Q8.out) (fun hHeld => ?_)
          clear hK K
          refine pg ?_
          refine tkV 13 ?_
          refine tkV 14 ?_
          refine wpAnyH_done (by kernel_rfl) ?_ _
          go_wp2_with fail
          go_meet
          exact ⟨p9, pl, rfl, rfl, rfl, rfl, D8, B8, Lib.hid (Q0.out.trans Q8.out)⟩
    · skip
      go_simp
      have q := (Q.refl wd).alloc (.cells #[.slice none 0 0, .int .i64 0, .int .i64 0] 27)
      have b := Bx.new wd 27 #[.slice none 0 0, .int .i64 0, .int .i64 0]
      have hpl := Qd.out.size
      obtain ⟨w1, hw⟩ : ∃ z, z = wd.alloc (.cells #[.slice none 0 0, .int .i64 0, .int .i64 0] 27) := ⟨_, rfl⟩
      rw [← hw] at q b
      rw [← hw]
      clear hw
      obtain ⟨pl, hp⟩ : ∃ z, z = wd.heap.size := ⟨_, rfl⟩
      rw [← hp] at b hpl ⊢
      clear hp
      have bl7 := Lib.hid b
      have Q1 := Lib.hid (Qd.out.trans q)
      clear q b
      clear hHeld
      refine hK.out _ _ (KS.out _ Q1.out) (fun hHeld => ?_)
      clear hK K
      refine pg ?_
      refine aR [2, 9] ?_
      refine AllReadyH.cons (o := _) rfl (fun K hK => ?_) (AllReadyH.cons (o := _) rfl (fun K hK => ?_) AllReadyH.nil)
      · skip
        go_simp
        go_at_call 9
        refine (CF.out _ (Q0.out.trans Q1.out)).mono ?_
        rintro e w2 ⟨A9, c9, rfl, hz9, q⟩
        have Q2 := Lib.hid (Q1.out.trans q)
        have Z9 := Lib.hid hz9
        have bl7 := Lib.hid (bl7.out.on q)
        clear q hz9
        clear hHeld
        refine hK.out _ _ (KS.out _ Q2.out) (fun hHeld => ?_)
        clear hK K
        refine pg ?_
        refine aR [9] ?_
        refine AllReadyH.cons (o := _) rfl (fun K hK => ?_) AllReadyH.nil
        · skip
          go_simp
          have q := (Q.refl w2).alloc (.cells #[.slice none 0 0, .int .i64 0, .int .i64 0, .int .i64 0, .bool false, .int .i64 0] 24)
          have b := Bx.new w2 24 #[.slice none 0 0, .int .i64 0, .int .i64 0, .int .i64 0, .bool false, .int .i64 0]
          have hp9 := Q2.out.size
          have hnn := bl7.out.lt
          obtain ⟨w3, hw⟩ : ∃ z, z = w2.alloc (.cells #[.slice none 0 0, .int .i64 0, .int .i64 0, .int .i64 0, .bool false, .int .i64 0] 24) := ⟨_, rfl⟩
          rw [← hw] at q b
          rw [← hw]
          clear hw
          obtain ⟨p9, hp⟩ : ∃ z, z = w2.heap.size := ⟨_, rfl⟩
          rw [← hp] at b hp9 hnn ⊢
          clear hp
          have b7 := Lib.hid b
          have Q3 := Lib.hid (Q2.out.trans q)
          have Z9 := Lib.hid (Z9.out.on q)
          have bl7 := Lib.hid (bl7.out.on q)
          have hne : p9 ≠ pl := by omega
          clear hnn
          clear q b
          clear hHeld
          refine hK.out _ _ (KS.out _ Q3.out) (fun hHeld => ?_)
          clear hK K
          refine pg ?_
          have q9 := q_make (A := A9) (n := nd) (c := c9) (d := d) Q3.out hp9
          have b9 := DB.make (d := d) b7.out HND.out Z9.out
          have bl := b_make (A := A9) (n := nd) (c := c9) (d := d) (p := p9) bl7.out hne.symm
          have f0 := b7.out.cell 0
          have f1 := b7.out.cell 1
          have f2 := b7.out.cell 2
          have f3 := b7.out.cell 3
          have f4 := b7.out.cell 4
          have f5 := b7.out.cell 5
          have g0 := b7.out.frozen 0
          have g1 := b7.out.frozen 1
          have g2 := b7.out.frozen 2
          have g3 := b7.out.frozen 3
          have g4 := b7.out.frozen 4
          have g5 := b7.out.frozen 5
          obtain ⟨we, hwe⟩ : ∃ z, z = ((((((w3.setCell ⟨p9, 0, none⟩ (.slice A9 nd c9)).setCell ⟨p9, 1, none⟩ (.int .i64 d.size)).setCell ⟨p9, 2, none⟩ (.int .i64 d.mo)).setCell ⟨p9, 3, none⟩ (.int .i64 d.fuel)).setCell ⟨p9, 4, none⟩ (.bool d.off)).setCell ⟨p9, 5, none⟩ (.int .i64 d.bad)) := ⟨_, rfl⟩
          rw [← hwe] at q9 b9 bl
          have b9h := Lib.hid b9
          have blh := Lib.hid bl
          have q9h := Lib.hid q9
          clear b9 bl q9
          refine aR [11] ?_
          refine AllReadyH.cons (o := _) rfl (fun K hK => ?_) AllReadyH.nil
          go_simp
          rw [← hwe]
          clear hwe f0 f1 f2 f3 f4 f5 g0 g1 g2 g3 g4 g5
          clear hHeld
          refine hK.out _ _ (KS.out _ q9h.out) (fun hHeld => ?_)
          clear hK K
          refine pg ?_
          have f0 := blh.out.cell 0
          have f1 := blh.out.cell 1
          have f2 := blh.out.cell 2
          have g0 := blh.out.frozen 0
          have g1 := blh.out.frozen 1
          have g2 := blh.out.frozen 2
          have b8 := ((blh.out.set 0 (.slice KA nk kc)).set 1 (.int .i64 zo)).set 2 (.int .i64 cu)
          have q8 : Q W0 (((we.setCell ⟨pl, 0, none⟩ (.slice KA nk kc)).setCell ⟨pl, 1, none⟩ (.int .i64 zo)).setCell ⟨pl, 2, none⟩ (.int .i64 cu)) := Q.set (Q.set (Q.set q9h.out hpl _) hpl _) hpl _
          have k8 : ∀ j, j ≠ pl → ((((we.setCell ⟨pl, 0, none⟩ (.slice KA nk kc)).setCell ⟨pl, 1, none⟩ (.int .i64 zo)).setCell ⟨pl, 2, none⟩ (.int .i64 cu))).heap[j]? = we.heap[j]? := fun j hj => (heap_set _ _ _ _ hj).trans ((heap_set _ _ _ _ hj).trans (heap_set _ _ _ _ hj))
          have d8 : DB (((we.setCell ⟨pl, 0, none⟩ (.slice KA nk kc)).setCell ⟨pl, 1, none⟩ (.int .i64 zo)).setCell ⟨pl, 2, none⟩ (.int .i64 cu)) p9 nd d := by
            obtain ⟨A', c', e, b2, z2⟩ := b9h.out
            exact ⟨A', c', e, (k8 p9 hne).trans b2, Zns.offL z2 blh.out k8 (by simp)⟩
          simp only [List.setIfInBounds_toArray, List.set_cons_zero, List.set_cons_succ] at b8
          obtain ⟨wf, hwf⟩ : ∃ z, z = (((we.setCell ⟨pl, 0, none⟩ (.slice KA nk kc)).setCell ⟨pl, 1, none⟩ (.int .i64 zo)).setCell ⟨pl, 2, none⟩ (.int .i64 cu)) := ⟨_, rfl⟩
          rw [← hwf] at b8 q8 d8
          clear k8
          have B8 := Lib.hid b8
          have Q8 := Lib.hid q8
          have D8 := Lib.hid d8
          clear b8 q8 d8
          refine aR [12] ?_
          refine AllReadyH.cons (o := _) rfl (fun K hK => ?_) AllReadyH.nil
          go_simp
          rw [← hwf]
          clear hwf f0 f1 f2 g0 g1 g2
          clear hHeld
          refine hK.out _ _ (KS.out _ Q8.out) (fun hHeld => ?_)
          clear hK K
          refine pg ?_
          refine tkV 13 ?_
          refine tkV 14 ?_
          refine wpAnyH_done (by kernel_rfl) ?_ _
          go_wp2_with fail
          go_meet
          exact ⟨p9, pl, rfl, rfl, rfl, rfl, D8, B8, Lib.hid (Q0.out.trans Q8.out)⟩
      · skip
        go_simp
        have q := (Q.refl w1).alloc (.cells #[.slice none 0 0, .int .i64 0, .int .i64 0, .int .i64 0, .bool false, .int .i64 0] 24)
        have b := Bx.new w1 24 #[.slice none 0 0, .int .i64 0, .int .i64 0, .int .i64 0, .bool false, .int .i64 0]
        have hp9 := Q1.out.size
        have hnn := bl7.out.lt
        obtain ⟨w2, hw⟩ : ∃ z, z = w1.alloc (.cells #[.slice none 0 0, .int .i64 0, .int .i64 0, .int .i64 0, .bool false, .int .i64 0] 24) := ⟨_, rfl⟩
        rw [← hw] at q b
        rw [← hw]
        clear hw
        obtain ⟨p9, hp⟩ : ∃ z, z = w1.heap.size := ⟨_, rfl⟩
        rw [← hp] at b hp9 hnn ⊢
        clear hp
        have b7 := Lib.hid b
        have Q2 := Lib.hid (Q1.out.trans q)
        have bl7 := Lib.hid (bl7.out.on q)
        have hne : p9 ≠ pl := by omega
        clear hnn
        clear q b
        clear hHeld
        refine hK.out _ _ (KS.out _ Q2.out) (fun hHeld => ?_)
        clear hK K
        refine pg ?_
        refine aR [2] ?_
        refine AllReadyH.cons (o := _) rfl (fun K hK => ?_) AllReadyH.nil
        · skip
          go_simp
          go_at_call 9
          refine (CF.out _ (Q0.out.trans Q2.out)).mono ?_
          rintro e w3 ⟨A9, c9, rfl, hz9, q⟩
          have Q3 := Lib.hid (Q2.out.trans q)
          have Z9 := Lib.hid hz9
          have b7 := Lib.hid (b7.out.on q)
          have bl7 := Lib.hid (bl7.out.on q)
          clear q hz9
          clear hHeld
          refine hK.out _ _ (KS.out _ Q3.out) (fun hHeld => ?_)
          clear hK K
          refine pg ?_
          have q9 := q_make (A := A9) (n := nd) (c := c9) (d := d) Q3.out hp9
          have b9 := DB.make (d := d) b7.out HND.out Z9.out
          have bl := b_make (A := A9) (n := nd) (c := c9) (d := d) (p := p9) bl7.out hne.symm
          have f0 := b7.out.cell 0
          have f1 := b7.out.cell 1
          have f2 := b7.out.cell 2
          have f3 := b7.out.cell 3
          have f4 := b7.out.cell 4
          have f5 := b7.out.cell 5
          have g0 := b7.out.frozen 0
          have g1 := b7.out.frozen 1
          have g2 := b7.out.frozen 2
          have g3 := b7.out.frozen 3
          have g4 := b7.out.frozen 4
          have g5 := b7.out.frozen 5
          obtain ⟨we, hwe⟩ : ∃ z, z = ((((((w3.setCell ⟨p9, 0, none⟩ (.slice A9 nd c9)).setCell ⟨p9, 1, none⟩ (.int .i64 d.size)).setCell ⟨p9, 2, none⟩ (.int .i64 d.mo)).setCell ⟨p9, 3, none⟩ (.int .i64 d.fuel)).setCell ⟨p9, 4, none⟩ (.bool d.off)).setCell ⟨p9, 5, none⟩ (.int .i64 d.bad)) := ⟨_, rfl⟩
          rw [← hwe] at q9 b9 bl
          have b9h := Lib.hid b9
          have blh := Lib.hid bl
          have q9h := Lib.hid q9
          clear b9 bl q9
          refine aR [11] ?_
          refine AllReadyH.cons (o := _) rfl (fun K hK => ?_) AllReadyH.nil
          go_simp
          rw [← hwe]
          clear hwe f0 f1 f2 f3 f4 f5 g0 g1 g2 g3 g4 g5
          clear hHeld
          refine hK.out _ _ (KS.out _ q9h.out) (fun hHeld => ?_)
          clear hK K
          refine pg ?_
          have f0 := blh.out.cell 0
          have f1 := blh.out.cell 1
          have f2 := blh.out.cell 2
          have g0 := blh.out.frozen 0
          have g1 := blh.out.frozen 1
          have g2 := blh.out.frozen 2
          have b8 := ((blh.out.set 0 (.slice KA nk kc)).set 1 (.int .i64 zo)).set 2 (.int .i64 cu)
          have q8 : Q W0 (((we.setCell ⟨pl, 0, none⟩ (.slice KA nk kc)).setCell ⟨pl, 1, none⟩ (.int .i64 zo)).setCell ⟨pl, 2, none⟩ (.int .i64 cu)) := Q.set (Q.set (Q.set q9h.out hpl _) hpl _) hpl _
          have k8 : ∀ j, j ≠ pl → ((((we.setCell ⟨pl, 0, none⟩ (.slice KA nk kc)).setCell ⟨pl, 1, none⟩ (.int .i64 zo)).setCell ⟨pl, 2, none⟩ (.int .i64 cu))).heap[j]? = we.heap[j]? := fun j hj => (heap_set _ _ _ _ hj).trans ((heap_set _ _ _ _ hj).trans (heap_set _ _ _ _ hj))
          have d8 : DB (((we.setCell ⟨pl, 0, none⟩ (.slice KA nk kc)).setCell ⟨pl, 1, none⟩ (.int .i64 zo)).setCell ⟨pl, 2, none⟩ (.int .i64 cu)) p9 nd d := by
            obtain ⟨A', c', e, b2, z2⟩ := b9h.out
            exact ⟨A', c', e, (k8 p9 hne).trans b2, Zns.offL z2 blh.out k8 (by simp)⟩
          simp only [List.setIfInBounds_toArray, List.set_cons_zero, List.set_cons_succ] at b8
          obtain ⟨wf, hwf⟩ : ∃ z, z = (((we.setCell ⟨pl, 0, none⟩ (.slice KA nk kc)).setCell ⟨pl, 1, none⟩ (.int .i64 zo)).setCell ⟨pl, 2, none⟩ (.int .i64 cu)) := ⟨_, rfl⟩
          rw [← hwf] at b8 q8 d8
          clear k8
          have B8 := Lib.hid b8
          have Q8 := Lib.hid q8
          have D8 := Lib.hid d8
          clear b8 q8 d8
          refine aR [12] ?_
          refine AllReadyH.cons (o := _) rfl (fun K hK => ?_) AllReadyH.nil
          go_simp
          rw [← hwf]
          clear hwf f0 f1 f2 g0 g1 g2
          clear hHeld
          refine hK.out _ _ (KS.out _ Q8.out) (fun hHeld => ?_)
          clear hK K
          refine pg ?_
          refine tkV 13 ?_
          refine tkV 14 ?_
          refine wpAnyH_done (by kernel_rfl) ?_ _
          go_wp2_with fail
          go_meet
          exact ⟨p9, pl, rfl, rfl, rfl, rfl, D8, B8, Lib.hid (Q0.out.trans Q8.out)⟩
  case rest =>
  obtain ⟨p3, p4, rfl, rfl, rfl, rfl, HD3, HB4, HQ1⟩ := hcut
  obtain ⟨W1, hW1⟩ : ∃ zz, zz = wc := ⟨_, rfl⟩
  subst hW1
  obtain ⟨A3, c3, -, b3, z3⟩ := HD3.out
  have B3 := Lib.hid b3
  have Z3 := Lib.hid z3
  obtain ⟨x0, x1, x2, x3, x4, x5⟩ : W1.cell? ⟨p3, 0, none⟩ = some (.slice A3 nd c3) ∧ W1.cell? ⟨p3, 1, none⟩ = some (.int .i64 d.size) ∧ W1.cell? ⟨p3, 2, none⟩ = some (.int .i64 d.mo) ∧ W1.cell? ⟨p3, 3, none⟩ = some (.int .i64 d.fuel) ∧ W1.cell? ⟨p3, 4, none⟩ = some (.bool d.off) ∧ W1.cell? ⟨p3, 5, none⟩ = some (.int .i64 d.bad) := ⟨b3.cell 0, b3.cell 1, b3.cell 2, b3.cell 3, b3.cell 4, b3.cell 5⟩
  have CR1 := Lib.hid (CR.out W1 _ Z3.out)
  clear b3 z3 HD3
  go_wp2_with fail
  refine (CR1.out).mono ?_
  rintro e w2 ⟨Ab, cb, rfl, hbk, q2⟩
  clear x0 x1 x2 x3 x4 x5
  have Q2 := Lib.hid q2
  have BK := Lib.hid hbk
  clear q2 hbk
  obtain ⟨x0, x1, x2, x3, x4, x5⟩ : w2.cell? ⟨p3, 0, none⟩ = some (.slice A3 nd c3) ∧ w2.cell? ⟨p3, 1, none⟩ = some (.int .i64 d.size) ∧ w2.cell? ⟨p3, 2, none⟩ = some (.int .i64 d.mo) ∧ w2.cell? ⟨p3, 3, none⟩ = some (.int .i64 d.fuel) ∧ w2.cell? ⟨p3, 4, none⟩ = some (.bool d.off) ∧ w2.cell? ⟨p3, 5, none⟩ = some (.int .i64 d.bad) := ⟨(B3.out.on Q2.out).cell 0, (B3.out.on Q2.out).cell 1, (B3.out.on Q2.out).cell 2, (B3.out.on Q2.out).cell 3, (B3.out.on Q2.out).cell 4, (B3.out.on Q2.out).cell 5⟩
  have CU2 := Lib.hid (CU.out w2 _ (Z3.out.on Q2.out))
  go_wp2_with fail
  refine (CU2.out).mono ?_
  rintro e w3 ⟨Af, cf, rfl, hzf, q3⟩
  clear x0 x1 x2 x3 x4 x5
  have bn := Bx.new w3 24 #[.slice Af nf cf, .int .i64 fd.size, .int .i64 fd.mo, .int .i64 fd.fuel, .bool fd.off, .int .i64 fd.bad]
  have qn := (Q.refl w3).alloc (.cells #[.slice Af nf cf, .int .i64 fd.size, .int .i64 fd.mo, .int .i64 fd.fuel, .bool fd.off, .int .i64 fd.bad] 24)
  have zn := hzf.on qn
  have q24 := q3.trans qn
  obtain ⟨p9, hp9⟩ : ∃ zz, zz = w3.heap.size := ⟨_, rfl⟩
  obtain ⟨W4, hW4⟩ : ∃ zz, zz = w3.alloc (.cells #[.slice Af nf cf, .int .i64 fd.size, .int .i64 fd.mo, .int .i64 fd.fuel, .bool fd.off, .int .i64 fd.bad] 24) := ⟨_, rfl⟩
  rw [← hp9, ← hW4] at bn
  rw [← hW4] at zn q24
  go_upto_region 4 with fail
  rw [← hp9, ← hW4]
  clear hp9 hW4 hzf q3 qn
  have B9 := Lib.hid bn
  have Z9 := Lib.hid zn
  have Q24 := Lib.hid q24
  have Q14 := Lib.hid (Q2.out.trans q24)
  clear bn zn q24
  have KS : Hid (∀ x, Q W4 x → (fun (W : World) => W.cell? ⟨p3, 0, none⟩ = some (.slice A3 nd c3) ∧ W.cell? ⟨p3, 1, none⟩ = some (.int .i64 d.size) ∧ W.cell? ⟨p3, 2, none⟩ = some (.int .i64 d.mo) ∧ W.cell? ⟨p3, 3, none⟩ = some (.int .i64 d.fuel) ∧ W.cell? ⟨p3, 4, none⟩ = some (.bool d.off) ∧ W.cell? ⟨p3, 5, none⟩ = some (.int .i64 d.bad) ∧ W.cell? ⟨p4, 0, none⟩ = some (.slice KA nk kc) ∧ W.cell? ⟨p4, 1, none⟩ = some (.int .i64 zo) ∧ W.cell? ⟨p4, 2, none⟩ = some (.int .i64 cu)) x) := Lib.hid (fun x q => ⟨(B3.out.on (Q14.out.trans q)).cell 0, (B3.out.on (Q14.out.trans q)).cell 1, (B3.out.on (Q14.out.trans q)).cell 2, (B3.out.on (Q14.out.trans q)).cell 3, (B3.out.on (Q14.out.trans q)).cell 4, (B3.out.on (Q14.out.trans q)).cell 5, (HB4.out.on (Q14.out.trans q)).cell 0, (HB4.out.on (Q14.out.trans q)).cell 1, (HB4.out.on (Q14.out.trans q)).cell 2⟩)
  have q1 := (Q.refl W4).drew
  obtain ⟨wd, hwd⟩ : ∃ zz, zz = W4.drew := ⟨_, rfl⟩
  refine wp_region_held_drew (S := (fun (W : World) => W.cell? ⟨p3, 0, none⟩ = some (.slice A3 nd c3) ∧ W.cell? ⟨p3, 1, none⟩ = some (.int .i64 d.size) ∧ W.cell? ⟨p3, 2, none⟩ = some (.int .i64 d.mo) ∧ W.cell? ⟨p3, 3, none⟩ = some (.int .i64 d.fuel) ∧ W.cell? ⟨p3, 4, none⟩ = some (.bool d.off) ∧ W.cell? ⟨p3, 5, none⟩ = some (.int .i64 d.bad) ∧ W.cell? ⟨p4, 0, none⟩ = some (.slice KA nk kc) ∧ W.cell? ⟨p4, 1, none⟩ = some (.int .i64 zo) ∧ W.cell? ⟨p4, 2, none⟩ = some (.int .i64 cu))) (by kernel_rfl) (KS.out _ q1) (fun hHeld => ?_)
  rw [← hwd] at q1 hHeld ⊢
  clear hwd
  have Qd := Lib.hid q1
  clear q1
  refine tkV 0 ?_
  refine tkV 1 ?_
  refine tkV 3 ?_
  refine tkV 4 ?_
  refine aR [2] ?_
  refine AllReadyH.cons (o := _) rfl (fun K hK => ?_) AllReadyH.nil
  go_simp
  go_at_call 13
  refine (CC.out _ _ (Z3.out.on (Q14.out.trans Qd.out)) (HQ1.out.trans (Q14.out.trans Qd.out))).mono ?_
  rintro e v1 ⟨Ac, cc, rfl, hzc, q⟩
  have R1 := Lib.hid (Qd.out.trans q)
  have ZC := Lib.hid hzc
  clear q hzc
  clear hHeld
  refine hK.out _ _ (KS.out _ R1.out) (fun hHeld => ?_)
  clear hK K
  refine pg ?_
  refine aR [5] ?_
  refine AllReadyH.cons (o := _) rfl (fun K hK => ?_) AllReadyH.nil
  go_simp
  go_at_call 14
  refine (CD.out _ _ (Z3.out.on (Q14.out.trans R1.out)) (HQ1.out.trans (Q14.out.trans R1.out)) HOC.out).mono ?_
  rintro e v2 ⟨Ae, ce, rfl, hze, q⟩
  have R2 := Lib.hid (R1.out.trans q)
  have ZC2 := Lib.hid (ZC.out.on q)
  have ZE := Lib.hid hze
  clear q hze
  clear hHeld
  refine hK.out _ _ (KS.out _ R2.out) (fun hHeld => ?_)
  clear hK K
  refine pg ?_
  refine aR [6] ?_
  refine AllReadyH.cons (o := _) rfl (fun K hK => ?_) AllReadyH.nil
  go_simp
  go_at_call 12
  refine (CS1.out _ _ _ ZC2.out ZE.out).mono ?_
  rintro e v3 ⟨rfl, q⟩
  have R3 := Lib.hid (R2.out.trans q)
  clear q
  clear hHeld
  refine hK.out _ _ (KS.out _ R3.out) (fun hHeld => ?_)
  clear hK K
  refine pg ?_
  refine tkV 7 ?_
  refine wpAnyH_done (by kernel_rfl) ?_ _
  clear hHeld ZC ZC2 ZE R1 R2 KS CC CD CS1
  go_upto_region 6 with fail
  by_cases hm : 1 ≤ z ∧ z ≤ 40 ∧ 1 ≤ n ∧ n ≤ 300
  · obtain ⟨m, hmz⟩ : ∃ m : Nat, (m : Int) = z := ⟨z.toNat, by omega⟩
    have hmt : m = (List.replicate z.toNat noZn).length := by rw [List.length_replicate]; omega
    have CN := Lib.hid (fun y => dev_c (k := 0) (ki := 0) (newZ_any z n 1 y) (newD_yes hm) rfl hmt)
    have CM0 := Lib.hid (fun (y : World) (v : Value) (h : Zns y y.heap.size v (List.replicate z.toNat noZn)) => rMay_any ⟨List.replicate z.toNat noZn, n, 1, -1, false, 0⟩ v y (by simp; omega) h)
    have CO0 := Lib.hid (fun (y : World) (v : Value) (h : Zns y y.heap.size v (List.replicate z.toNat noZn)) => rOpen_any ⟨List.replicate z.toNat noZn, n, 1, -1, false, 0⟩ v y (by simp; omega) h)
    simp only [newD_may hm, dvV, openN_rep] at CM0 CO0
    simp only at CN
    obtain ⟨ZR, hZR⟩ : ∃ zz, zz = List.replicate z.toNat noZn := ⟨_, rfl⟩
    rw [← hZR] at CN CM0 CO0
    obtain ⟨h1, h2, h3, h4⟩ := hm
    have H13 : Hid (1 ≤ z ∧ 1 ≤ n) := Lib.hid ⟨h1, h3⟩
    clear hmt hZR
    go_wp2_with fail
    refine (CN.out _).mono ?_
    rintro e w5 ⟨An, cn, rfl, hzn, q⟩
    have bn := Bx.new w5 24 #[.slice An m cn, .int .i64 n, .int .i64 1, .int .i64 (-1), .bool false, .int .i64 0]
    have qn := (Q.refl w5).alloc (.cells #[.slice An m cn, .int .i64 n, .int .i64 1, .int .i64 (-1), .bool false, .int .i64 0] 24)
    have zn := hzn.on qn
    have q35 := q.trans qn
    obtain ⟨p5, hp5⟩ : ∃ zz, zz = w5.heap.size := ⟨_, rfl⟩
    obtain ⟨W5, hW5⟩ : ∃ zz, zz = w5.alloc (.cells #[.slice An m cn, .int .i64 n, .int .i64 1, .int .i64 (-1), .bool false, .int .i64 0] 24) := ⟨_, rfl⟩
    rw [← hp5, ← hW5] at bn
    rw [← hW5] at zn q35
    go_upto_region 7 with fail
    rw [← hp5, ← hW5]
    clear hp5 hW5 hzn q qn
    have B5 := Lib.hid bn
    have Z5 := Lib.hid zn
    have R5' := Lib.hid (R3.out.trans q35)
    clear bn zn q35
    obtain ⟨x0, x1, x2, x3, x4, x5⟩ : W5.cell? ⟨p5, 0, none⟩ = some (.slice An m cn) ∧ W5.cell? ⟨p5, 1, none⟩ = some (.int .i64 n) ∧ W5.cell? ⟨p5, 2, none⟩ = some (.int .i64 1) ∧ W5.cell? ⟨p5, 3, none⟩ = some (.int .i64 (-1)) ∧ W5.cell? ⟨p5, 4, none⟩ = some (.bool false) ∧ W5.cell? ⟨p5, 5, none⟩ = some (.int .i64 0) := ⟨B5.out.cell 0, B5.out.cell 1, B5.out.cell 2, B5.out.cell 3, B5.out.cell 4, B5.out.cell 5⟩
    have CM5 := Lib.hid (CM0.out W5 _ Z5.out)
    go_wp2_with fail
    refine (CM5.out).mono ?_
    rintro e w6 ⟨rfl, q6⟩
    clear x0 x1 x2 x3 x4 x5
    have Q56 := Lib.hid q6
    clear q6
    obtain ⟨x0, x1, x2, x3, x4, x5⟩ : w6.cell? ⟨p5, 0, none⟩ = some (.slice An m cn) ∧ w6.cell? ⟨p5, 1, none⟩ = some (.int .i64 n) ∧ w6.cell? ⟨p5, 2, none⟩ = some (.int .i64 1) ∧ w6.cell? ⟨p5, 3, none⟩ = some (.int .i64 (-1)) ∧ w6.cell? ⟨p5, 4, none⟩ = some (.bool false) ∧ w6.cell? ⟨p5, 5, none⟩ = some (.int .i64 0) := ⟨(B5.out.on Q56.out).cell 0, (B5.out.on Q56.out).cell 1, (B5.out.on Q56.out).cell 2, (B5.out.on Q56.out).cell 3, (B5.out.on Q56.out).cell 4, (B5.out.on Q56.out).cell 5⟩
    have CO6 := Lib.hid (CO0.out w6 _ (Z5.out.on Q56.out))
    go_wp2_with fail
    refine (CO6.out).mono ?_
    rintro e w7 ⟨rfl, q7⟩
    have R7 := Lib.hid (R5'.out.trans (Q56.out.trans q7))
    clear x0 x1 x2 x3 x4 x5 q7 h1 h2 h3 h4
    go_upto_region 12 with fail
    obtain ⟨x0, x1, x2, x3, x4, x5⟩ : w7.cell? ⟨p3, 0, none⟩ = some (.slice A3 nd c3) ∧ w7.cell? ⟨p3, 1, none⟩ = some (.int .i64 d.size) ∧ w7.cell? ⟨p3, 2, none⟩ = some (.int .i64 d.mo) ∧ w7.cell? ⟨p3, 3, none⟩ = some (.int .i64 d.fuel) ∧ w7.cell? ⟨p3, 4, none⟩ = some (.bool d.off) ∧ w7.cell? ⟨p3, 5, none⟩ = some (.int .i64 d.bad) := ⟨(B3.out.on (Q14.out.trans R7.out)).cell 0, (B3.out.on (Q14.out.trans R7.out)).cell 1, (B3.out.on (Q14.out.trans R7.out)).cell 2, (B3.out.on (Q14.out.trans R7.out)).cell 3, (B3.out.on (Q14.out.trans R7.out)).cell 4, (B3.out.on (Q14.out.trans R7.out)).cell 5⟩
    have CMx := rMay_any d (.slice A3 nd c3) w7 SM.out.1 (Z3.out.on (Q14.out.trans R7.out))
    simp only [dvV] at CMx
    have CM := Lib.hid CMx
    clear CMx
    by_cases md : mayD d = false
    · obtain rfl : b = [] := by rw [HRB.out]; unfold readD; rw [if_pos md]
      obtain rfl : re = 1 := by rw [HRE.out]; unfold readD; rw [if_pos md]
      obtain rfl : nb = 0 := HNB.out
      obtain rfl : fe = 1 := by rw [HFE.out]; unfold fuelD; rw [if_pos (.inl md)]
      obtain rfl : nf = 0 := by rw [HNF.out, HFD.out]; unfold fuelD; rw [if_pos (.inl md)]; rfl
      rw [md] at CM
      clear md
      go_wp2_with fail
      refine (CM.out).mono ?_
      rintro e v5 ⟨rfl, q⟩
      have R5 := Lib.hid (R7.out.trans q)
      clear q x0 x1 x2 x3 x4 x5
      have y0 : v5.cell? ⟨p9, 0, none⟩ = some (.slice Af 0 cf) := (B9.out.on R5.out).cell 0
      go_wp2_with fail
      refine (awake13_any _).mono ?_
      rintro e v6 ⟨rfl, q⟩
      go_wp2
      go_ret
      exact ⟨rfl, HQ1.out.trans (Q14.out.trans (R5.out.trans q))⟩
    · have mt : mayD d = true := by simpa using md
      rw [mt] at CM
      go_wp2_with fail
      refine (CM.out).mono ?_
      rintro e v5 ⟨rfl, q⟩
      have R5 := Lib.hid (R7.out.trans q)
      clear q x0 x1 x2 x3 x4 x5
      obtain ⟨x0, x1, x2, x3, x4, x5⟩ : v5.cell? ⟨p3, 0, none⟩ = some (.slice A3 nd c3) ∧ v5.cell? ⟨p3, 1, none⟩ = some (.int .i64 d.size) ∧ v5.cell? ⟨p3, 2, none⟩ = some (.int .i64 d.mo) ∧ v5.cell? ⟨p3, 3, none⟩ = some (.int .i64 d.fuel) ∧ v5.cell? ⟨p3, 4, none⟩ = some (.bool d.off) ∧ v5.cell? ⟨p3, 5, none⟩ = some (.int .i64 d.bad) := ⟨(B3.out.on (Q14.out.trans R5.out)).cell 0, (B3.out.on (Q14.out.trans R5.out)).cell 1, (B3.out.on (Q14.out.trans R5.out)).cell 2, (B3.out.on (Q14.out.trans R5.out)).cell 3, (B3.out.on (Q14.out.trans R5.out)).cell 4, (B3.out.on (Q14.out.trans R5.out)).cell 5⟩
      have MD := Lib.hid mt
      clear md mt CM
      by_cases c1 : z < 0
      · have hh : ¬ hasZ d z := by unfold hasZ; omega
        exact absurd H13.out.1 (by omega)
      · by_cases c2 : (nd : Int) ≤ z
        · have hh : ¬ hasZ d z := by unfold hasZ; rw [← HND.out]; omega
          obtain rfl : b = [] := by rw [HRB.out]; unfold readD; rw [if_neg (by rw [MD.out]; simp), if_neg hh]
          obtain rfl : re = 12 := by rw [HRE.out]; unfold readD; rw [if_neg (by rw [MD.out]; simp), if_neg hh]
          obtain rfl : nb = 0 := HNB.out
          clear hh
          by_cases cn : n < -1
          · exact absurd H13.out.2 (by omega)
          · have hfu : fuelD d n = ({ d with fuel := n }, 0) := by unfold fuelD; rw [if_neg (by rw [MD.out]; simp; omega)]
            obtain rfl : fe = 0 := by rw [HFE.out, hfu]
            obtain rfl : fd = { d with fuel := n } := by rw [HFD.out, hfu]
            obtain rfl : nf = nd := by rw [HNF.out, HND.out]
            simp only at B9 Z9
            have CE := Lib.hid (fun (y : World) (a v : Value) (h : Zns y y.heap.size a d.zs) (g : Zns y y.heap.size v d.zs) => dsame_yes { d with fuel := n } a v y (by have := SM.out.1; show d.zs.length ≤ _; omega) (fun s hs => by have := SM.out.2 s hs; omega) h g)
            simp only [dvV] at CE
            have b7 := Bx.new v5 24 #[.slice A3 nf c3, .int .i64 d.size, .int .i64 d.mo, .int .i64 d.fuel, .bool d.off, .int .i64 d.bad]
            have q7 := (Q.refl v5).alloc (.cells #[.slice A3 nf c3, .int .i64 d.size, .int .i64 d.mo, .int .i64 d.fuel, .bool d.off, .int .i64 d.bad] 24)
            obtain ⟨p7, hp7⟩ : ∃ zz, zz = v5.heap.size := ⟨_, rfl⟩
            obtain ⟨W7, hW7⟩ : ∃ zz, zz = v5.alloc (.cells #[.slice A3 nf c3, .int .i64 d.size, .int .i64 d.mo, .int .i64 d.fuel, .bool d.off, .int .i64 d.bad] 24) := ⟨_, rfl⟩
            rw [← hp7, ← hW7] at b7
            rw [← hW7] at q7
            have h47 : W4.heap.size ≤ p7 := by rw [hp7]; exact R5.out.size
            clear hfu
            go_upto_region 24 with fail
            rw [← hp7, ← hW7]
            clear hW7 hp7 x0 x1 x2 x3 x4 x5
            have x3 := b7.cell 3
            have l3 := b7.frozen 3
            have b8 := b7.set 3 (.int .i64 n)
            have q8 : Q W4 (W7.setCell ⟨p7, 3, none⟩ (.int .i64 n)) := Q.set (R5.out.trans q7) h47 _
            obtain ⟨W8, hW8⟩ : ∃ zz, zz = W7.setCell ⟨p7, 3, none⟩ (.int .i64 n) := ⟨_, rfl⟩
            rw [← hW8] at b8 q8
            simp only [List.setIfInBounds_toArray, List.set_cons_zero, List.set_cons_succ] at b8
            have Q8 := Lib.hid q8
            have B8 := Lib.hid b8
            clear b7 q7 b8 q8
            go_upto_region 25 with fail
            rw [← hW8]
            clear hW8 x3 l3
            obtain ⟨x0, x1, x2, x3, x4, x5⟩ : W8.cell? ⟨p9, 0, none⟩ = some (.slice Af nf cf) ∧ W8.cell? ⟨p9, 1, none⟩ = some (.int .i64 d.size) ∧ W8.cell? ⟨p9, 2, none⟩ = some (.int .i64 d.mo) ∧ W8.cell? ⟨p9, 3, none⟩ = some (.int .i64 n) ∧ W8.cell? ⟨p9, 4, none⟩ = some (.bool d.off) ∧ W8.cell? ⟨p9, 5, none⟩ = some (.int .i64 d.bad) := ⟨(B9.out.on Q8.out).cell 0, (B9.out.on Q8.out).cell 1, (B9.out.on Q8.out).cell 2, (B9.out.on Q8.out).cell 3, (B9.out.on Q8.out).cell 4, (B9.out.on Q8.out).cell 5⟩
            obtain ⟨y0, y1, y2, y3, y4, y5⟩ : W8.cell? ⟨p7, 0, none⟩ = some (.slice A3 nf c3) ∧ W8.cell? ⟨p7, 1, none⟩ = some (.int .i64 d.size) ∧ W8.cell? ⟨p7, 2, none⟩ = some (.int .i64 d.mo) ∧ W8.cell? ⟨p7, 3, none⟩ = some (.int .i64 n) ∧ W8.cell? ⟨p7, 4, none⟩ = some (.bool d.off) ∧ W8.cell? ⟨p7, 5, none⟩ = some (.int .i64 d.bad) := ⟨B8.out.cell 0, B8.out.cell 1, B8.out.cell 2, B8.out.cell 3, B8.out.cell 4, B8.out.cell 5⟩
            have CE8 := Lib.hid (CE.out W8 _ _ (Z9.out.on Q8.out) (Z3.out.on (Q14.out.trans Q8.out)))
            go_wp2_with fail
            refine (CE8.out).mono ?_
            rintro e v8 ⟨rfl, q⟩
            have R8 := Lib.hid (Q8.out.trans q)
            clear q
            go_wp2_with fail
            refine (awake13_any _).mono ?_
            rintro e v9 ⟨rfl, q⟩
            go_wp2
            go_ret
            exact ⟨rfl, HQ1.out.trans (Q14.out.trans (R8.out.trans q))⟩
        · have hh : hasZ d z := by unfold hasZ; rw [← HND.out]; omega
          by_cases ho : d.off = true
          · obtain rfl : b = [] := by rw [HRB.out]; unfold readD; rw [if_neg (by rw [MD.out]; simp), if_pos hh, if_pos ho]
            obtain rfl : re = 10 := by rw [HRE.out]; unfold readD; rw [if_neg (by rw [MD.out]; simp), if_pos hh, if_pos ho]
            obtain rfl : nb = 0 := HNB.out
            rw [ho] at x4
            clear hh
            by_cases cn : n < -1
            · exact absurd H13.out.2 (by omega)
            · have hfu : fuelD d n = ({ d with fuel := n }, 0) := by unfold fuelD; rw [if_neg (by rw [MD.out]; simp; omega)]
              obtain rfl : fe = 0 := by rw [HFE.out, hfu]
              obtain rfl : fd = { d with fuel := n } := by rw [HFD.out, hfu]
              obtain rfl : nf = nd := by rw [HNF.out, HND.out]
              simp only at B9 Z9
              have CE := Lib.hid (fun (y : World) (a v : Value) (h : Zns y y.heap.size a d.zs) (g : Zns y y.heap.size v d.zs) => dsame_yes { d with fuel := n } a v y (by have := SM.out.1; show d.zs.length ≤ _; omega) (fun s hs => by have := SM.out.2 s hs; omega) h g)
              simp only [dvV] at CE
              rw [ho] at B9 CE
              have b7 := Bx.new v5 24 #[.slice A3 nf c3, .int .i64 d.size, .int .i64 d.mo, .int .i64 d.fuel, .bool true, .int .i64 d.bad]
              have q7 := (Q.refl v5).alloc (.cells #[.slice A3 nf c3, .int .i64 d.size, .int .i64 d.mo, .int .i64 d.fuel, .bool true, .int .i64 d.bad] 24)
              obtain ⟨p7, hp7⟩ : ∃ zz, zz = v5.heap.size := ⟨_, rfl⟩
              obtain ⟨W7, hW7⟩ : ∃ zz, zz = v5.alloc (.cells #[.slice A3 nf c3, .int .i64 d.size, .int .i64 d.mo, .int .i64 d.fuel, .bool true, .int .i64 d.bad] 24) := ⟨_, rfl⟩
              rw [← hp7, ← hW7] at b7
              rw [← hW7] at q7
              have h47 : W4.heap.size ≤ p7 := by rw [hp7]; exact R5.out.size
              clear hfu
              go_upto_region 24 with fail
              rw [← hp7, ← hW7]
              clear hW7 hp7 x0 x1 x2 x3 x4 x5
              have x3 := b7.cell 3
              have l3 := b7.frozen 3
              have b8 := b7.set 3 (.int .i64 n)
              have q8 : Q W4 (W7.setCell ⟨p7, 3, none⟩ (.int .i64 n)) := Q.set (R5.out.trans q7) h47 _
              obtain ⟨W8, hW8⟩ : ∃ zz, zz = W7.setCell ⟨p7, 3, none⟩ (.int .i64 n) := ⟨_, rfl⟩
              rw [← hW8] at b8 q8
              simp only [List.setIfInBounds_toArray, List.set_cons_zero, List.set_cons_succ] at b8
              have Q8 := Lib.hid q8
              have B8 := Lib.hid b8
              clear b7 q7 b8 q8
              go_upto_region 25 with fail
              rw [← hW8]
              clear hW8 x3 l3
              obtain ⟨x0, x1, x2, x3, x4, x5⟩ : W8.cell? ⟨p9, 0, none⟩ = some (.slice Af nf cf) ∧ W8.cell? ⟨p9, 1, none⟩ = some (.int .i64 d.size) ∧ W8.cell? ⟨p9, 2, none⟩ = some (.int .i64 d.mo) ∧ W8.cell? ⟨p9, 3, none⟩ = some (.int .i64 n) ∧ W8.cell? ⟨p9, 4, none⟩ = some (.bool true) ∧ W8.cell? ⟨p9, 5, none⟩ = some (.int .i64 d.bad) := ⟨(B9.out.on Q8.out).cell 0, (B9.out.on Q8.out).cell 1, (B9.out.on Q8.out).cell 2, (B9.out.on Q8.out).cell 3, (B9.out.on Q8.out).cell 4, (B9.out.on Q8.out).cell 5⟩
              obtain ⟨y0, y1, y2, y3, y4, y5⟩ : W8.cell? ⟨p7, 0, none⟩ = some (.slice A3 nf c3) ∧ W8.cell? ⟨p7, 1, none⟩ = some (.int .i64 d.size) ∧ W8.cell? ⟨p7, 2, none⟩ = some (.int .i64 d.mo) ∧ W8.cell? ⟨p7, 3, none⟩ = some (.int .i64 n) ∧ W8.cell? ⟨p7, 4, none⟩ = some (.bool true) ∧ W8.cell? ⟨p7, 5, none⟩ = some (.int .i64 d.bad) := ⟨B8.out.cell 0, B8.out.cell 1, B8.out.cell 2, B8.out.cell 3, B8.out.cell 4, B8.out.cell 5⟩
              have CE8 := Lib.hid (CE.out W8 _ _ (Z9.out.on Q8.out) (Z3.out.on (Q14.out.trans Q8.out)))
              go_wp2_with fail
              refine (CE8.out).mono ?_
              rintro e v8 ⟨rfl, q⟩
              have R8 := Lib.hid (Q8.out.trans q)
              clear q
              go_wp2_with fail
              refine (awake13_any _).mono ?_
              rintro e v9 ⟨rfl, q⟩
              go_wp2
              go_ret
              exact ⟨rfl, HQ1.out.trans (Q14.out.trans (R8.out.trans q))⟩
          · obtain ⟨k, rfl⟩ : ∃ k : Nat, z = (k : Int) := ⟨z.toNat, by omega⟩
            have hk : k < d.zs.length := by rw [← HND.out]; omega
            have hkn : k < nd := by omega
            have hof : d.off = false := by simpa using ho
            rw [hof] at x4
            obtain rfl : re = 0 := by rw [HRE.out]; unfold readD; rw [if_neg (by rw [MD.out]; simp), if_pos hh, if_neg ho]
            have hbe : b = d.zs[k].b := by rw [HRB.out]; unfold readD; rw [if_neg (by rw [MD.out]; simp), if_pos hh, if_neg ho, Int.toNat_natCast, atZn_is hk]
            obtain ⟨a, c1_, A1, n1, e1, ha, -, hat⟩ := Z3.out.pick k hk
            injection e1 with e1 e2 e3
            subst e1
            obtain ⟨s0, -, -, sb⟩ := hat v5 (Q14.out.trans R5.out)
            have hbl : b.length ≤ 100000 := by rw [hbe]; exact SM.out.2 _ (List.getElem_mem hk)
            rw [← hbe, ← HNB.out] at s0 sb
            have CT := Lib.hid ((same_any b b _ _ v5 (by omega) (by omega) ((BK.out.on (Q24.out.trans R5.out)).txts) sb.txts))
            rw [show decide (b = b) = true by simp] at CT
            clear hh ho hof hat e2 e3 hbe sb hbl ha hk
            go_wp2_with fail
            refine (CT.out).mono ?_
            rintro e v6 ⟨rfl, q⟩
            have R6 := Lib.hid (R5.out.trans q)
            clear q x0 x1 x2 x3 x4 x5 s0
            obtain ⟨x0, x1, x2, x3, x4, x5⟩ : v6.cell? ⟨p3, 0, none⟩ = some (.slice (some a) nd c3) ∧ v6.cell? ⟨p3, 1, none⟩ = some (.int .i64 d.size) ∧ v6.cell? ⟨p3, 2, none⟩ = some (.int .i64 d.mo) ∧ v6.cell? ⟨p3, 3, none⟩ = some (.int .i64 d.fuel) ∧ v6.cell? ⟨p3, 4, none⟩ = some (.bool d.off) ∧ v6.cell? ⟨p3, 5, none⟩ = some (.int .i64 d.bad) := ⟨(B3.out.on (Q14.out.trans R6.out)).cell 0, (B3.out.on (Q14.out.trans R6.out)).cell 1, (B3.out.on (Q14.out.trans R6.out)).cell 2, (B3.out.on (Q14.out.trans R6.out)).cell 3, (B3.out.on (Q14.out.trans R6.out)).cell 4, (B3.out.on (Q14.out.trans R6.out)).cell 5⟩
            by_cases cn : n < -1
            · exact absurd H13.out.2 (by omega)
            · have hfu : fuelD d n = ({ d with fuel := n }, 0) := by unfold fuelD; rw [if_neg (by rw [MD.out]; simp; omega)]
              obtain rfl : fe = 0 := by rw [HFE.out, hfu]
              obtain rfl : fd = { d with fuel := n } := by rw [HFD.out, hfu]
              obtain rfl : nf = nd := by rw [HNF.out, HND.out]
              simp only at B9 Z9
              have CE := Lib.hid (fun (y : World) (a v : Value) (h : Zns y y.heap.size a d.zs) (g : Zns y y.heap.size v d.zs) => dsame_yes { d with fuel := n } a v y (by have := SM.out.1; show d.zs.length ≤ _; omega) (fun s hs => by have := SM.out.2 s hs; omega) h g)
              simp only [dvV] at CE
              have b7 := Bx.new v6 24 #[.slice (some a) nf c3, .int .i64 d.size, .int .i64 d.mo, .int .i64 d.fuel, .bool d.off, .int .i64 d.bad]
              have q7 := (Q.refl v6).alloc (.cells #[.slice (some a) nf c3, .int .i64 d.size, .int .i64 d.mo, .int .i64 d.fuel, .bool d.off, .int .i64 d.bad] 24)
              obtain ⟨p7, hp7⟩ : ∃ zz, zz = v6.heap.size := ⟨_, rfl⟩
              obtain ⟨W7, hW7⟩ : ∃ zz, zz = v6.alloc (.cells #[.slice (some a) nf c3, .int .i64 d.size, .int .i64 d.mo, .int .i64 d.fuel, .bool d.off, .int .i64 d.bad] 24) := ⟨_, rfl⟩
              rw [← hp7, ← hW7] at b7
              rw [← hW7] at q7
              have h47 : W4.heap.size ≤ p7 := by rw [hp7]; exact R6.out.size
              clear hfu
              go_upto_region 24 with fail
              rw [← hp7, ← hW7]
              clear hW7 hp7 x0 x1 x2 x3 x4 x5
              have x3 := b7.cell 3
              have l3 := b7.frozen 3
              have b8 := b7.set 3 (.int .i64 n)
              have q8 : Q W4 (W7.setCell ⟨p7, 3, none⟩ (.int .i64 n)) := Q.set (R6.out.trans q7) h47 _
              obtain ⟨W8, hW8⟩ : ∃ zz, zz = W7.setCell ⟨p7, 3, none⟩ (.int .i64 n) := ⟨_, rfl⟩
              rw [← hW8] at b8 q8
              simp only [List.setIfInBounds_toArray, List.set_cons_zero, List.set_cons_succ] at b8
              have Q8 := Lib.hid q8
              have B8 := Lib.hid b8
              clear b7 q7 b8 q8
              go_upto_region 25 with fail
              rw [← hW8]
              clear hW8 x3 l3
              obtain ⟨x0, x1, x2, x3, x4, x5⟩ : W8.cell? ⟨p9, 0, none⟩ = some (.slice Af nf cf) ∧ W8.cell? ⟨p9, 1, none⟩ = some (.int .i64 d.size) ∧ W8.cell? ⟨p9, 2, none⟩ = some (.int .i64 d.mo) ∧ W8.cell? ⟨p9, 3, none⟩ = some (.int .i64 n) ∧ W8.cell? ⟨p9, 4, none⟩ = some (.bool d.off) ∧ W8.cell? ⟨p9, 5, none⟩ = some (.int .i64 d.bad) := ⟨(B9.out.on Q8.out).cell 0, (B9.out.on Q8.out).cell 1, (B9.out.on Q8.out).cell 2, (B9.out.on Q8.out).cell 3, (B9.out.on Q8.out).cell 4, (B9.out.on Q8.out).cell 5⟩
              obtain ⟨y0, y1, y2, y3, y4, y5⟩ : W8.cell? ⟨p7, 0, none⟩ = some (.slice (some a) nf c3) ∧ W8.cell? ⟨p7, 1, none⟩ = some (.int .i64 d.size) ∧ W8.cell? ⟨p7, 2, none⟩ = some (.int .i64 d.mo) ∧ W8.cell? ⟨p7, 3, none⟩ = some (.int .i64 n) ∧ W8.cell? ⟨p7, 4, none⟩ = some (.bool d.off) ∧ W8.cell? ⟨p7, 5, none⟩ = some (.int .i64 d.bad) := ⟨B8.out.cell 0, B8.out.cell 1, B8.out.cell 2, B8.out.cell 3, B8.out.cell 4, B8.out.cell 5⟩
              have CE8 := Lib.hid (CE.out W8 _ _ (Z9.out.on Q8.out) (Z3.out.on (Q14.out.trans Q8.out)))
              go_wp2_with fail
              refine (CE8.out).mono ?_
              rintro e v8 ⟨rfl, q⟩
              have R8 := Lib.hid (Q8.out.trans q)
              clear q
              go_wp2_with fail
              refine (awake13_any _).mono ?_
              rintro e v9 ⟨rfl, q⟩
              go_wp2
              go_ret
              exact ⟨rfl, HQ1.out.trans (Q14.out.trans (R8.out.trans q))⟩
  · have CN := Lib.hid (fun y => dev_c (k := 1) (ki := 1) (n := 0) (newZ_any z n 1 y) (newD_no hm) rfl rfl)
    simp only [noDv] at CN
    go_wp2_with fail
    refine (CN.out _).mono ?_
    rintro e w5 ⟨An, cn, rfl, -, q⟩
    have q35 := q.alloc (.cells #[.slice An 0 cn, .int .i64 0, .int .i64 0, .int .i64 0, .bool false, .int .i64 0] 24)
    obtain ⟨W5, hW5⟩ : ∃ zz, zz = w5.alloc (.cells #[.slice An 0 cn, .int .i64 0, .int .i64 0, .int .i64 0, .bool false, .int .i64 0] 24) := ⟨_, rfl⟩
    rw [← hW5] at q35
    go_upto_region 7 with fail
    rw [← hW5]
    clear hW5 q
    have R7 := Lib.hid (R3.out.trans q35)
    clear q35
    go_cut [13] from 51 to 64 (fun V wx => V = .bool false ∧ W5 = wx)
    case first =>
      by_cases h1 : 1 ≤ z
      · by_cases h2 : z ≤ 40
        · by_cases h3 : 1 ≤ n
          · have h4 : ¬ n ≤ 300 := fun h4 => hm ⟨h1, h2, h3, h4⟩
            clear hm
            go_wp2_with fail
            go_meet
            exact ⟨by first | rfl | (simp; omega), rfl⟩
          · clear hm
            go_wp2_with fail
            go_meet
            exact ⟨by first | rfl | (simp; omega), rfl⟩
        · clear hm
          go_wp2_with fail
          go_meet
          exact ⟨by first | rfl | (simp; omega), rfl⟩
      · clear hm
        go_wp2_with fail
        go_meet
        exact ⟨by first | rfl | (simp; omega), rfl⟩
    case rest =>
    obtain ⟨rfl, rfl⟩ := hcut
    clear hm
    go_upto_region 12 with fail
    obtain ⟨x0, x1, x2, x3, x4, x5⟩ : W5.cell? ⟨p3, 0, none⟩ = some (.slice A3 nd c3) ∧ W5.cell? ⟨p3, 1, none⟩ = some (.int .i64 d.size) ∧ W5.cell? ⟨p3, 2, none⟩ = some (.int .i64 d.mo) ∧ W5.cell? ⟨p3, 3, none⟩ = some (.int .i64 d.fuel) ∧ W5.cell? ⟨p3, 4, none⟩ = some (.bool d.off) ∧ W5.cell? ⟨p3, 5, none⟩ = some (.int .i64 d.bad) := ⟨(B3.out.on (Q14.out.trans R7.out)).cell 0, (B3.out.on (Q14.out.trans R7.out)).cell 1, (B3.out.on (Q14.out.trans R7.out)).cell 2, (B3.out.on (Q14.out.trans R7.out)).cell 3, (B3.out.on (Q14.out.trans R7.out)).cell 4, (B3.out.on (Q14.out.trans R7.out)).cell 5⟩
    have CMx := rMay_any d (.slice A3 nd c3) W5 SM.out.1 (Z3.out.on (Q14.out.trans R7.out))
    simp only [dvV] at CMx
    have CM := Lib.hid CMx
    clear CMx
    by_cases md : mayD d = false
    · obtain rfl : b = [] := by rw [HRB.out]; unfold readD; rw [if_pos md]
      obtain rfl : re = 1 := by rw [HRE.out]; unfold readD; rw [if_pos md]
      obtain rfl : nb = 0 := HNB.out
      obtain rfl : fe = 1 := by rw [HFE.out]; unfold fuelD; rw [if_pos (.inl md)]
      obtain rfl : nf = 0 := by rw [HNF.out, HFD.out]; unfold fuelD; rw [if_pos (.inl md)]; rfl
      rw [md] at CM
      clear md
      go_wp2_with fail
      refine (CM.out).mono ?_
      rintro e v5 ⟨rfl, q⟩
      have R5 := Lib.hid (R7.out.trans q)
      clear q x0 x1 x2 x3 x4 x5
      have y0 : v5.cell? ⟨p9, 0, none⟩ = some (.slice Af 0 cf) := (B9.out.on R5.out).cell 0
      go_wp2_with fail
      refine (awake13_any _).mono ?_
      rintro e v6 ⟨rfl, q⟩
      go_wp2
      go_ret
      exact ⟨rfl, HQ1.out.trans (Q14.out.trans (R5.out.trans q))⟩
    · have mt : mayD d = true := by simpa using md
      rw [mt] at CM
      go_wp2_with fail
      refine (CM.out).mono ?_
      rintro e v5 ⟨rfl, q⟩
      have R5 := Lib.hid (R7.out.trans q)
      clear q x0 x1 x2 x3 x4 x5
      obtain ⟨x0, x1, x2, x3, x4, x5⟩ : v5.cell? ⟨p3, 0, none⟩ = some (.slice A3 nd c3) ∧ v5.cell? ⟨p3, 1, none⟩ = some (.int .i64 d.size) ∧ v5.cell? ⟨p3, 2, none⟩ = some (.int .i64 d.mo) ∧ v5.cell? ⟨p3, 3, none⟩ = some (.int .i64 d.fuel) ∧ v5.cell? ⟨p3, 4, none⟩ = some (.bool d.off) ∧ v5.cell? ⟨p3, 5, none⟩ = some (.int .i64 d.bad) := ⟨(B3.out.on (Q14.out.trans R5.out)).cell 0, (B3.out.on (Q14.out.trans R5.out)).cell 1, (B3.out.on (Q14.out.trans R5.out)).cell 2, (B3.out.on (Q14.out.trans R5.out)).cell 3, (B3.out.on (Q14.out.trans R5.out)).cell 4, (B3.out.on (Q14.out.trans R5.out)).cell 5⟩
      have MD := Lib.hid mt
      clear md mt CM
      by_cases c1 : z < 0
      · have hh : ¬ hasZ d z := by unfold hasZ; omega
        obtain rfl : b = [] := by rw [HRB.out]; unfold readD; rw [if_neg (by rw [MD.out]; simp), if_neg hh]
        obtain rfl : re = 12 := by rw [HRE.out]; unfold readD; rw [if_neg (by rw [MD.out]; simp), if_neg hh]
        obtain rfl : nb = 0 := HNB.out
        clear hh
        by_cases cn : n < -1
        · skip
          obtain rfl : fe = 1 := by rw [HFE.out]; unfold fuelD; rw [if_pos (.inr cn)]
          obtain rfl : nf = 0 := by rw [HNF.out, HFD.out]; unfold fuelD; rw [if_pos (.inr cn)]; rfl
          have y0 : v5.cell? ⟨p9, 0, none⟩ = some (.slice Af 0 cf) := (B9.out.on R5.out).cell 0
          go_wp2_with fail
          refine (awake13_any _).mono ?_
          rintro e v7 ⟨rfl, q⟩
          go_wp2
          go_ret
          exact ⟨rfl, HQ1.out.trans (Q14.out.trans (R5.out.trans q))⟩
        · have hfu : fuelD d n = ({ d with fuel := n }, 0) := by unfold fuelD; rw [if_neg (by rw [MD.out]; simp; omega)]
          obtain rfl : fe = 0 := by rw [HFE.out, hfu]
          obtain rfl : fd = { d with fuel := n } := by rw [HFD.out, hfu]
          obtain rfl : nf = nd := by rw [HNF.out, HND.out]
          simp only at B9 Z9
          have CE := Lib.hid (fun (y : World) (a v : Value) (h : Zns y y.heap.size a d.zs) (g : Zns y y.heap.size v d.zs) => dsame_yes { d with fuel := n } a v y (by have := SM.out.1; show d.zs.length ≤ _; omega) (fun s hs => by have := SM.out.2 s hs; omega) h g)
          simp only [dvV] at CE
          have b7 := Bx.new v5 24 #[.slice A3 nf c3, .int .i64 d.size, .int .i64 d.mo, .int .i64 d.fuel, .bool d.off, .int .i64 d.bad]
          have q7 := (Q.refl v5).alloc (.cells #[.slice A3 nf c3, .int .i64 d.size, .int .i64 d.mo, .int .i64 d.fuel, .bool d.off, .int .i64 d.bad] 24)
          obtain ⟨p7, hp7⟩ : ∃ zz, zz = v5.heap.size := ⟨_, rfl⟩
          obtain ⟨W7, hW7⟩ : ∃ zz, zz = v5.alloc (.cells #[.slice A3 nf c3, .int .i64 d.size, .int .i64 d.mo, .int .i64 d.fuel, .bool d.off, .int .i64 d.bad] 24) := ⟨_, rfl⟩
          rw [← hp7, ← hW7] at b7
          rw [← hW7] at q7
          have h47 : W4.heap.size ≤ p7 := by rw [hp7]; exact R5.out.size
          clear hfu
          go_upto_region 24 with fail
          rw [← hp7, ← hW7]
          clear hW7 hp7 x0 x1 x2 x3 x4 x5
          have x3 := b7.cell 3
          have l3 := b7.frozen 3
          have b8 := b7.set 3 (.int .i64 n)
          have q8 : Q W4 (W7.setCell ⟨p7, 3, none⟩ (.int .i64 n)) := Q.set (R5.out.trans q7) h47 _
          obtain ⟨W8, hW8⟩ : ∃ zz, zz = W7.setCell ⟨p7, 3, none⟩ (.int .i64 n) := ⟨_, rfl⟩
          rw [← hW8] at b8 q8
          simp only [List.setIfInBounds_toArray, List.set_cons_zero, List.set_cons_succ] at b8
          have Q8 := Lib.hid q8
          have B8 := Lib.hid b8
          clear b7 q7 b8 q8
          go_upto_region 25 with fail
          rw [← hW8]
          clear hW8 x3 l3
          obtain ⟨x0, x1, x2, x3, x4, x5⟩ : W8.cell? ⟨p9, 0, none⟩ = some (.slice Af nf cf) ∧ W8.cell? ⟨p9, 1, none⟩ = some (.int .i64 d.size) ∧ W8.cell? ⟨p9, 2, none⟩ = some (.int .i64 d.mo) ∧ W8.cell? ⟨p9, 3, none⟩ = some (.int .i64 n) ∧ W8.cell? ⟨p9, 4, none⟩ = some (.bool d.off) ∧ W8.cell? ⟨p9, 5, none⟩ = some (.int .i64 d.bad) := ⟨(B9.out.on Q8.out).cell 0, (B9.out.on Q8.out).cell 1, (B9.out.on Q8.out).cell 2, (B9.out.on Q8.out).cell 3, (B9.out.on Q8.out).cell 4, (B9.out.on Q8.out).cell 5⟩
          obtain ⟨y0, y1, y2, y3, y4, y5⟩ : W8.cell? ⟨p7, 0, none⟩ = some (.slice A3 nf c3) ∧ W8.cell? ⟨p7, 1, none⟩ = some (.int .i64 d.size) ∧ W8.cell? ⟨p7, 2, none⟩ = some (.int .i64 d.mo) ∧ W8.cell? ⟨p7, 3, none⟩ = some (.int .i64 n) ∧ W8.cell? ⟨p7, 4, none⟩ = some (.bool d.off) ∧ W8.cell? ⟨p7, 5, none⟩ = some (.int .i64 d.bad) := ⟨B8.out.cell 0, B8.out.cell 1, B8.out.cell 2, B8.out.cell 3, B8.out.cell 4, B8.out.cell 5⟩
          have CE8 := Lib.hid (CE.out W8 _ _ (Z9.out.on Q8.out) (Z3.out.on (Q14.out.trans Q8.out)))
          go_wp2_with fail
          refine (CE8.out).mono ?_
          rintro e v8 ⟨rfl, q⟩
          have R8 := Lib.hid (Q8.out.trans q)
          clear q
          go_wp2_with fail
          refine (awake13_any _).mono ?_
          rintro e v9 ⟨rfl, q⟩
          go_wp2
          go_ret
          exact ⟨rfl, HQ1.out.trans (Q14.out.trans (R8.out.trans q))⟩
      · by_cases c2 : (nd : Int) ≤ z
        · have hh : ¬ hasZ d z := by unfold hasZ; rw [← HND.out]; omega
          obtain rfl : b = [] := by rw [HRB.out]; unfold readD; rw [if_neg (by rw [MD.out]; simp), if_neg hh]
          obtain rfl : re = 12 := by rw [HRE.out]; unfold readD; rw [if_neg (by rw [MD.out]; simp), if_neg hh]
          obtain rfl : nb = 0 := HNB.out
          clear hh
          by_cases cn : n < -1
          · skip
            obtain rfl : fe = 1 := by rw [HFE.out]; unfold fuelD; rw [if_pos (.inr cn)]
            obtain rfl : nf = 0 := by rw [HNF.out, HFD.out]; unfold fuelD; rw [if_pos (.inr cn)]; rfl
            have y0 : v5.cell? ⟨p9, 0, none⟩ = some (.slice Af 0 cf) := (B9.out.on R5.out).cell 0
            go_wp2_with fail
            refine (awake13_any _).mono ?_
            rintro e v7 ⟨rfl, q⟩
            go_wp2
            go_ret
            exact ⟨rfl, HQ1.out.trans (Q14.out.trans (R5.out.trans q))⟩
          · have hfu : fuelD d n = ({ d with fuel := n }, 0) := by unfold fuelD; rw [if_neg (by rw [MD.out]; simp; omega)]
            obtain rfl : fe = 0 := by rw [HFE.out, hfu]
            obtain rfl : fd = { d with fuel := n } := by rw [HFD.out, hfu]
            obtain rfl : nf = nd := by rw [HNF.out, HND.out]
            simp only at B9 Z9
            have CE := Lib.hid (fun (y : World) (a v : Value) (h : Zns y y.heap.size a d.zs) (g : Zns y y.heap.size v d.zs) => dsame_yes { d with fuel := n } a v y (by have := SM.out.1; show d.zs.length ≤ _; omega) (fun s hs => by have := SM.out.2 s hs; omega) h g)
            simp only [dvV] at CE
            have b7 := Bx.new v5 24 #[.slice A3 nf c3, .int .i64 d.size, .int .i64 d.mo, .int .i64 d.fuel, .bool d.off, .int .i64 d.bad]
            have q7 := (Q.refl v5).alloc (.cells #[.slice A3 nf c3, .int .i64 d.size, .int .i64 d.mo, .int .i64 d.fuel, .bool d.off, .int .i64 d.bad] 24)
            obtain ⟨p7, hp7⟩ : ∃ zz, zz = v5.heap.size := ⟨_, rfl⟩
            obtain ⟨W7, hW7⟩ : ∃ zz, zz = v5.alloc (.cells #[.slice A3 nf c3, .int .i64 d.size, .int .i64 d.mo, .int .i64 d.fuel, .bool d.off, .int .i64 d.bad] 24) := ⟨_, rfl⟩
            rw [← hp7, ← hW7] at b7
            rw [← hW7] at q7
            have h47 : W4.heap.size ≤ p7 := by rw [hp7]; exact R5.out.size
            clear hfu
            go_upto_region 24 with fail
            rw [← hp7, ← hW7]
            clear hW7 hp7 x0 x1 x2 x3 x4 x5
            have x3 := b7.cell 3
            have l3 := b7.frozen 3
            have b8 := b7.set 3 (.int .i64 n)
            have q8 : Q W4 (W7.setCell ⟨p7, 3, none⟩ (.int .i64 n)) := Q.set (R5.out.trans q7) h47 _
            obtain ⟨W8, hW8⟩ : ∃ zz, zz = W7.setCell ⟨p7, 3, none⟩ (.int .i64 n) := ⟨_, rfl⟩
            rw [← hW8] at b8 q8
            simp only [List.setIfInBounds_toArray, List.set_cons_zero, List.set_cons_succ] at b8
            have Q8 := Lib.hid q8
            have B8 := Lib.hid b8
            clear b7 q7 b8 q8
            go_upto_region 25 with fail
            rw [← hW8]
            clear hW8 x3 l3
            obtain ⟨x0, x1, x2, x3, x4, x5⟩ : W8.cell? ⟨p9, 0, none⟩ = some (.slice Af nf cf) ∧ W8.cell? ⟨p9, 1, none⟩ = some (.int .i64 d.size) ∧ W8.cell? ⟨p9, 2, none⟩ = some (.int .i64 d.mo) ∧ W8.cell? ⟨p9, 3, none⟩ = some (.int .i64 n) ∧ W8.cell? ⟨p9, 4, none⟩ = some (.bool d.off) ∧ W8.cell? ⟨p9, 5, none⟩ = some (.int .i64 d.bad) := ⟨(B9.out.on Q8.out).cell 0, (B9.out.on Q8.out).cell 1, (B9.out.on Q8.out).cell 2, (B9.out.on Q8.out).cell 3, (B9.out.on Q8.out).cell 4, (B9.out.on Q8.out).cell 5⟩
            obtain ⟨y0, y1, y2, y3, y4, y5⟩ : W8.cell? ⟨p7, 0, none⟩ = some (.slice A3 nf c3) ∧ W8.cell? ⟨p7, 1, none⟩ = some (.int .i64 d.size) ∧ W8.cell? ⟨p7, 2, none⟩ = some (.int .i64 d.mo) ∧ W8.cell? ⟨p7, 3, none⟩ = some (.int .i64 n) ∧ W8.cell? ⟨p7, 4, none⟩ = some (.bool d.off) ∧ W8.cell? ⟨p7, 5, none⟩ = some (.int .i64 d.bad) := ⟨B8.out.cell 0, B8.out.cell 1, B8.out.cell 2, B8.out.cell 3, B8.out.cell 4, B8.out.cell 5⟩
            have CE8 := Lib.hid (CE.out W8 _ _ (Z9.out.on Q8.out) (Z3.out.on (Q14.out.trans Q8.out)))
            go_wp2_with fail
            refine (CE8.out).mono ?_
            rintro e v8 ⟨rfl, q⟩
            have R8 := Lib.hid (Q8.out.trans q)
            clear q
            go_wp2_with fail
            refine (awake13_any _).mono ?_
            rintro e v9 ⟨rfl, q⟩
            go_wp2
            go_ret
            exact ⟨rfl, HQ1.out.trans (Q14.out.trans (R8.out.trans q))⟩
        · have hh : hasZ d z := by unfold hasZ; rw [← HND.out]; omega
          by_cases ho : d.off = true
          · obtain rfl : b = [] := by rw [HRB.out]; unfold readD; rw [if_neg (by rw [MD.out]; simp), if_pos hh, if_pos ho]
            obtain rfl : re = 10 := by rw [HRE.out]; unfold readD; rw [if_neg (by rw [MD.out]; simp), if_pos hh, if_pos ho]
            obtain rfl : nb = 0 := HNB.out
            rw [ho] at x4
            clear hh
            by_cases cn : n < -1
            · skip
              obtain rfl : fe = 1 := by rw [HFE.out]; unfold fuelD; rw [if_pos (.inr cn)]
              obtain rfl : nf = 0 := by rw [HNF.out, HFD.out]; unfold fuelD; rw [if_pos (.inr cn)]; rfl
              have y0 : v5.cell? ⟨p9, 0, none⟩ = some (.slice Af 0 cf) := (B9.out.on R5.out).cell 0
              go_wp2_with fail
              refine (awake13_any _).mono ?_
              rintro e v7 ⟨rfl, q⟩
              go_wp2
              go_ret
              exact ⟨rfl, HQ1.out.trans (Q14.out.trans (R5.out.trans q))⟩
            · have hfu : fuelD d n = ({ d with fuel := n }, 0) := by unfold fuelD; rw [if_neg (by rw [MD.out]; simp; omega)]
              obtain rfl : fe = 0 := by rw [HFE.out, hfu]
              obtain rfl : fd = { d with fuel := n } := by rw [HFD.out, hfu]
              obtain rfl : nf = nd := by rw [HNF.out, HND.out]
              simp only at B9 Z9
              have CE := Lib.hid (fun (y : World) (a v : Value) (h : Zns y y.heap.size a d.zs) (g : Zns y y.heap.size v d.zs) => dsame_yes { d with fuel := n } a v y (by have := SM.out.1; show d.zs.length ≤ _; omega) (fun s hs => by have := SM.out.2 s hs; omega) h g)
              simp only [dvV] at CE
              rw [ho] at B9 CE
              have b7 := Bx.new v5 24 #[.slice A3 nf c3, .int .i64 d.size, .int .i64 d.mo, .int .i64 d.fuel, .bool true, .int .i64 d.bad]
              have q7 := (Q.refl v5).alloc (.cells #[.slice A3 nf c3, .int .i64 d.size, .int .i64 d.mo, .int .i64 d.fuel, .bool true, .int .i64 d.bad] 24)
              obtain ⟨p7, hp7⟩ : ∃ zz, zz = v5.heap.size := ⟨_, rfl⟩
              obtain ⟨W7, hW7⟩ : ∃ zz, zz = v5.alloc (.cells #[.slice A3 nf c3, .int .i64 d.size, .int .i64 d.mo, .int .i64 d.fuel, .bool true, .int .i64 d.bad] 24) := ⟨_, rfl⟩
              rw [← hp7, ← hW7] at b7
              rw [← hW7] at q7
              have h47 : W4.heap.size ≤ p7 := by rw [hp7]; exact R5.out.size
              clear hfu
              go_upto_region 24 with fail
              rw [← hp7, ← hW7]
              clear hW7 hp7 x0 x1 x2 x3 x4 x5
              have x3 := b7.cell 3
              have l3 := b7.frozen 3
              have b8 := b7.set 3 (.int .i64 n)
              have q8 : Q W4 (W7.setCell ⟨p7, 3, none⟩ (.int .i64 n)) := Q.set (R5.out.trans q7) h47 _
              obtain ⟨W8, hW8⟩ : ∃ zz, zz = W7.setCell ⟨p7, 3, none⟩ (.int .i64 n) := ⟨_, rfl⟩
              rw [← hW8] at b8 q8
              simp only [List.setIfInBounds_toArray, List.set_cons_zero, List.set_cons_succ] at b8
              have Q8 := Lib.hid q8
              have B8 := Lib.hid b8
              clear b7 q7 b8 q8
              go_upto_region 25 with fail
              rw [← hW8]
              clear hW8 x3 l3
              obtain ⟨x0, x1, x2, x3, x4, x5⟩ : W8.cell? ⟨p9, 0, none⟩ = some (.slice Af nf cf) ∧ W8.cell? ⟨p9, 1, none⟩ = some (.int .i64 d.size) ∧ W8.cell? ⟨p9, 2, none⟩ = some (.int .i64 d.mo) ∧ W8.cell? ⟨p9, 3, none⟩ = some (.int .i64 n) ∧ W8.cell? ⟨p9, 4, none⟩ = some (.bool true) ∧ W8.cell? ⟨p9, 5, none⟩ = some (.int .i64 d.bad) := ⟨(B9.out.on Q8.out).cell 0, (B9.out.on Q8.out).cell 1, (B9.out.on Q8.out).cell 2, (B9.out.on Q8.out).cell 3, (B9.out.on Q8.out).cell 4, (B9.out.on Q8.out).cell 5⟩
              obtain ⟨y0, y1, y2, y3, y4, y5⟩ : W8.cell? ⟨p7, 0, none⟩ = some (.slice A3 nf c3) ∧ W8.cell? ⟨p7, 1, none⟩ = some (.int .i64 d.size) ∧ W8.cell? ⟨p7, 2, none⟩ = some (.int .i64 d.mo) ∧ W8.cell? ⟨p7, 3, none⟩ = some (.int .i64 n) ∧ W8.cell? ⟨p7, 4, none⟩ = some (.bool true) ∧ W8.cell? ⟨p7, 5, none⟩ = some (.int .i64 d.bad) := ⟨B8.out.cell 0, B8.out.cell 1, B8.out.cell 2, B8.out.cell 3, B8.out.cell 4, B8.out.cell 5⟩
              have CE8 := Lib.hid (CE.out W8 _ _ (Z9.out.on Q8.out) (Z3.out.on (Q14.out.trans Q8.out)))
              go_wp2_with fail
              refine (CE8.out).mono ?_
              rintro e v8 ⟨rfl, q⟩
              have R8 := Lib.hid (Q8.out.trans q)
              clear q
              go_wp2_with fail
              refine (awake13_any _).mono ?_
              rintro e v9 ⟨rfl, q⟩
              go_wp2
              go_ret
              exact ⟨rfl, HQ1.out.trans (Q14.out.trans (R8.out.trans q))⟩
          · obtain ⟨k, rfl⟩ : ∃ k : Nat, z = (k : Int) := ⟨z.toNat, by omega⟩
            have hk : k < d.zs.length := by rw [← HND.out]; omega
            have hkn : k < nd := by omega
            have hof : d.off = false := by simpa using ho
            rw [hof] at x4
            obtain rfl : re = 0 := by rw [HRE.out]; unfold readD; rw [if_neg (by rw [MD.out]; simp), if_pos hh, if_neg ho]
            have hbe : b = d.zs[k].b := by rw [HRB.out]; unfold readD; rw [if_neg (by rw [MD.out]; simp), if_pos hh, if_neg ho, Int.toNat_natCast, atZn_is hk]
            obtain ⟨a, c1_, A1, n1, e1, ha, -, hat⟩ := Z3.out.pick k hk
            injection e1 with e1 e2 e3
            subst e1
            obtain ⟨s0, -, -, sb⟩ := hat v5 (Q14.out.trans R5.out)
            have hbl : b.length ≤ 100000 := by rw [hbe]; exact SM.out.2 _ (List.getElem_mem hk)
            rw [← hbe, ← HNB.out] at s0 sb
            have CT := Lib.hid ((same_any b b _ _ v5 (by omega) (by omega) ((BK.out.on (Q24.out.trans R5.out)).txts) sb.txts))
            rw [show decide (b = b) = true by simp] at CT
            clear hh ho hof hat e2 e3 hbe sb hbl ha hk
            go_wp2_with fail
            refine (CT.out).mono ?_
            rintro e v6 ⟨rfl, q⟩
            have R6 := Lib.hid (R5.out.trans q)
            clear q x0 x1 x2 x3 x4 x5 s0
            obtain ⟨x0, x1, x2, x3, x4, x5⟩ : v6.cell? ⟨p3, 0, none⟩ = some (.slice (some a) nd c3) ∧ v6.cell? ⟨p3, 1, none⟩ = some (.int .i64 d.size) ∧ v6.cell? ⟨p3, 2, none⟩ = some (.int .i64 d.mo) ∧ v6.cell? ⟨p3, 3, none⟩ = some (.int .i64 d.fuel) ∧ v6.cell? ⟨p3, 4, none⟩ = some (.bool d.off) ∧ v6.cell? ⟨p3, 5, none⟩ = some (.int .i64 d.bad) := ⟨(B3.out.on (Q14.out.trans R6.out)).cell 0, (B3.out.on (Q14.out.trans R6.out)).cell 1, (B3.out.on (Q14.out.trans R6.out)).cell 2, (B3.out.on (Q14.out.trans R6.out)).cell 3, (B3.out.on (Q14.out.trans R6.out)).cell 4, (B3.out.on (Q14.out.trans R6.out)).cell 5⟩
            by_cases cn : n < -1
            · skip
              obtain rfl : fe = 1 := by rw [HFE.out]; unfold fuelD; rw [if_pos (.inr cn)]
              obtain rfl : nf = 0 := by rw [HNF.out, HFD.out]; unfold fuelD; rw [if_pos (.inr cn)]; rfl
              have y0 : v6.cell? ⟨p9, 0, none⟩ = some (.slice Af 0 cf) := (B9.out.on R6.out).cell 0
              go_wp2_with fail
              refine (awake13_any _).mono ?_
              rintro e v7 ⟨rfl, q⟩
              go_wp2
              go_ret
              exact ⟨rfl, HQ1.out.trans (Q14.out.trans (R6.out.trans q))⟩
            · have hfu : fuelD d n = ({ d with fuel := n }, 0) := by unfold fuelD; rw [if_neg (by rw [MD.out]; simp; omega)]
              obtain rfl : fe = 0 := by rw [HFE.out, hfu]
              obtain rfl : fd = { d with fuel := n } := by rw [HFD.out, hfu]
              obtain rfl : nf = nd := by rw [HNF.out, HND.out]
              simp only at B9 Z9
              have CE := Lib.hid (fun (y : World) (a v : Value) (h : Zns y y.heap.size a d.zs) (g : Zns y y.heap.size v d.zs) => dsame_yes { d with fuel := n } a v y (by have := SM.out.1; show d.zs.length ≤ _; omega) (fun s hs => by have := SM.out.2 s hs; omega) h g)
              simp only [dvV] at CE
              have b7 := Bx.new v6 24 #[.slice (some a) nf c3, .int .i64 d.size, .int .i64 d.mo, .int .i64 d.fuel, .bool d.off, .int .i64 d.bad]
              have q7 := (Q.refl v6).alloc (.cells #[.slice (some a) nf c3, .int .i64 d.size, .int .i64 d.mo, .int .i64 d.fuel, .bool d.off, .int .i64 d.bad] 24)
              obtain ⟨p7, hp7⟩ : ∃ zz, zz = v6.heap.size := ⟨_, rfl⟩
              obtain ⟨W7, hW7⟩ : ∃ zz, zz = v6.alloc (.cells #[.slice (some a) nf c3, .int .i64 d.size, .int .i64 d.mo, .int .i64 d.fuel, .bool d.off, .int .i64 d.bad] 24) := ⟨_, rfl⟩
              rw [← hp7, ← hW7] at b7
              rw [← hW7] at q7
              have h47 : W4.heap.size ≤ p7 := by rw [hp7]; exact R6.out.size
              clear hfu
              go_upto_region 24 with fail
              rw [← hp7, ← hW7]
              clear hW7 hp7 x0 x1 x2 x3 x4 x5
              have x3 := b7.cell 3
              have l3 := b7.frozen 3
              have b8 := b7.set 3 (.int .i64 n)
              have q8 : Q W4 (W7.setCell ⟨p7, 3, none⟩ (.int .i64 n)) := Q.set (R6.out.trans q7) h47 _
              obtain ⟨W8, hW8⟩ : ∃ zz, zz = W7.setCell ⟨p7, 3, none⟩ (.int .i64 n) := ⟨_, rfl⟩
              rw [← hW8] at b8 q8
              simp only [List.setIfInBounds_toArray, List.set_cons_zero, List.set_cons_succ] at b8
              have Q8 := Lib.hid q8
              have B8 := Lib.hid b8
              clear b7 q7 b8 q8
              go_upto_region 25 with fail
              rw [← hW8]
              clear hW8 x3 l3
              obtain ⟨x0, x1, x2, x3, x4, x5⟩ : W8.cell? ⟨p9, 0, none⟩ = some (.slice Af nf cf) ∧ W8.cell? ⟨p9, 1, none⟩ = some (.int .i64 d.size) ∧ W8.cell? ⟨p9, 2, none⟩ = some (.int .i64 d.mo) ∧ W8.cell? ⟨p9, 3, none⟩ = some (.int .i64 n) ∧ W8.cell? ⟨p9, 4, none⟩ = some (.bool d.off) ∧ W8.cell? ⟨p9, 5, none⟩ = some (.int .i64 d.bad) := ⟨(B9.out.on Q8.out).cell 0, (B9.out.on Q8.out).cell 1, (B9.out.on Q8.out).cell 2, (B9.out.on Q8.out).cell 3, (B9.out.on Q8.out).cell 4, (B9.out.on Q8.out).cell 5⟩
              obtain ⟨y0, y1, y2, y3, y4, y5⟩ : W8.cell? ⟨p7, 0, none⟩ = some (.slice (some a) nf c3) ∧ W8.cell? ⟨p7, 1, none⟩ = some (.int .i64 d.size) ∧ W8.cell? ⟨p7, 2, none⟩ = some (.int .i64 d.mo) ∧ W8.cell? ⟨p7, 3, none⟩ = some (.int .i64 n) ∧ W8.cell? ⟨p7, 4, none⟩ = some (.bool d.off) ∧ W8.cell? ⟨p7, 5, none⟩ = some (.int .i64 d.bad) := ⟨B8.out.cell 0, B8.out.cell 1, B8.out.cell 2, B8.out.cell 3, B8.out.cell 4, B8.out.cell 5⟩
              have CE8 := Lib.hid (CE.out W8 _ _ (Z9.out.on Q8.out) (Z3.out.on (Q14.out.trans Q8.out)))
              go_wp2_with fail
              refine (CE8.out).mono ?_
              rintro e v8 ⟨rfl, q⟩
              have R8 := Lib.hid (Q8.out.trans q)
              clear q
              go_wp2_with fail
              refine (awake13_any _).mono ?_
              rintro e v9 ⟨rfl, q⟩
              go_wp2
              go_ret
              exact ⟨rfl, HQ1.out.trans (Q14.out.trans (R8.out.trans q))⟩

set_option maxRecDepth 100000 in
theorem lifted (os : Os) (started : os.Started) (H : Type) (enc : TypeId × Value → H) :
    ReturnsInHanded {} Try.checked os 3 .any (Rows.zoneReadsSpec.pre6 enc Try.prog Try.f3 Rows.zoneReadsRow.domain false) (Rows.zoneReadsSpec.post enc Try.prog Try.f3 false true false false) := by
  refine returnsInHanded_of_change (C := Try.checked) own started (by kernel_rfl) Try.func3
    (ChangeSpec.witness6 (enc := enc) (C := Try.checked) false ⟨#[], #[.agg #[.slice none 0 0, .int .i64 0, .int .i64 0, .int .i64 0, .bool false, .int .i64 0, .slice none 0 0, .int .i64 0, .int .i64 0, .int .i64 0, .int .i64 0]], []⟩ 8 (by kernel_rfl) (by kernel_rfl) (by kernel_rfl) (by kernel_rfl)) ?_
  intro W base args ds gs before hval0 hW hcnd _
  have hval : ∀ (j : Nat) t v, Try.f3.params[j]? = some t → args[j]? = some v → Value.okWide Try.prog W .any base t v := hval0
  have hW' := hW
  obtain ⟨p, q, hA0, hV, rfl, hfz, hnd⟩ := hW
  have hA : DataW.TrodAll enc Try.prog W 0 (fun _ => true) true Try.f3.params.toList args.toList ds p := hA0
  rw [Try.params3] at hA hval
  obtain ⟨v0, vs0, d0, ds0, p0, q0, hargs, rfl, rfl, h0, r0⟩ := trodAll_cons hA
  obtain ⟨rfl, rfl, rfl⟩ := trodAll_nil r0
  obtain rfl : args = #[v0] := by cases args; simp_all
  obtain ⟨rfl, rfl⟩ := trodVars_none hV
  clear hA0 hval0
  simp only [List.append_nil] at hW'
  have hlt : ∀ x ∈ p0, x.block < W.heap.size := fun x hx => by simpa using hW'.lt x (by simpa using hx)
  obtain ⟨x0, u0, l0, KV0, z0, n0, rfl, hx0, okx, hl0, okl, okz, okn⟩ := open_look (hval 0 29 v0 rfl rfl) h0
  refine (walk x0 u0 l0 KV0 z0 n0 W hx0 okx hl0 okz okn okl.2.2).mono fun e W' ⟨he, bel⟩ => ?_
  subst he
  refine ⟨_, rfl, _, _, _, [], _, [], hW', trodAll_mk1 (shut_bool Try.underlying4 _), (trodAll_cons_mk (Below.trod laid (by kernel_rfl) (of_decide_eq_true (by kernel_rfl)) h0 bel (fun x hx => hlt x (by simp [hx]))) trodAll_mk0), rfl, Below.frame bel _, fun h => by cases h⟩

theorem over : Rows.zoneReadsRow.holds Try.pinned (OpenSpec.ofChange Rows.zoneReadsSpec) :=
  OpenClaim.holds_of_wide 3 Try.f3 rfl rfl rfl rfl rfl rfl rfl ⟨rfl, rfl, rfl, rfl, rfl⟩ rfl rfl rfl rfl rfl (by kernel_rfl) Try.func3 (by kernel_rfl)
    (of_decide_eq_true (by kernel_rfl)) (by unfold Func.isWrapper; first | (rw [if_pos (by decide +kernel)]; kernel_rfl) | (rw [if_neg (by decide +kernel)]; exact ⟨rfl, rfl⟩))
    (fun os started H enc _ => lifted os started H enc)

theorem proved : Rows.ZoneReadsSaid := over
#print axioms proved
end Go.Proofs.Yteoondmakdghhaa.zoneReads
