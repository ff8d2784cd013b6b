/-
  The statements' awake of layer 13.
-/
import Derived.Test.YteoondmakdghhaaRf
import Derived.Test.YteoondmakdghhaaRg
import Derived.Test.YteoondmakdghhaaRh
import Derived.Test.YteoondmakdghhaaRi
import Derived.Deep.DeepCutAuto
namespace Go.Proofs.Yteoondmakdghhaa
set_option maxRecDepth 100000
open Go.ChangeShapes Go.WideShapes Go.ChangeAt Go.RowKit
set_option linter.unusedVariables false
set_option linter.unusedSimpArgs false
set_option maxRecDepth 100000
theorem fewD_sm (d : Dv) : smD (fewDv d) := by
  refine sm_of ⟨?_, fun z hz => ?_⟩
  · show ((d.zs.take 41).map fewZn).length ≤ 41
    rw [List.length_map, List.length_take]; omega
  · obtain ⟨y, -, rfl⟩ := List.mem_map.1 hz
    show (y.b.take 301).length ≤ 301
    rw [List.length_take]; omega
/-- A device in a box. -/
def DB (w : World) (p n : Nat) (d : Dv) : Prop := ∃ A c, n = d.zs.length ∧ Bx w p 24 #[.slice A n c, .int .i64 d.size, .int .i64 d.mo, .int .i64 d.fuel, .bool d.off, .int .i64 d.bad] ∧ Zns w w.heap.size (.slice A n c) d.zs
theorem DB.on {w w' : World} {p n : Nat} {d : Dv} (h : DB w p n d) (q : Q w w') : DB w' p n d := by
  obtain ⟨A, c, e, b, z⟩ := h
  exact ⟨A, c, e, b.on q, z.on q⟩
theorem DB.new {w : World} {A : Option Addr} {n c : Nat} {d : Dv} (hn : n = d.zs.length) (z : Zns w w.heap.size (.slice A n c) d.zs) : DB (w.alloc (.cells #[.slice A n c, .int .i64 d.size, .int .i64 d.mo, .int .i64 d.fuel, .bool d.off, .int .i64 d.bad] 24)) w.heap.size n d :=
  ⟨A, c, hn, Bx.new _ _ _, z.on ((Q.refl w).alloc _)⟩
theorem DB.make {w : World} {p : Nat} {A : Option Addr} {n c : Nat} {d : Dv} (b : Bx w p 24 #[.slice none 0 0, .int .i64 0, .int .i64 0, .int .i64 0, .bool false, .int .i64 0]) (hn : n = d.zs.length) (z : Zns w w.heap.size (.slice A n c) d.zs) : DB ((((((w.setCell ⟨p, 0, none⟩ (.slice A n c)).setCell ⟨p, 1, none⟩ (.int .i64 d.size)).setCell ⟨p, 2, none⟩ (.int .i64 d.mo)).setCell ⟨p, 3, none⟩ (.int .i64 d.fuel)).setCell ⟨p, 4, none⟩ (.bool d.off)).setCell ⟨p, 5, none⟩ (.int .i64 d.bad)) p n d := by
  have b2 := (((((b.set 0 (.slice A n c)).set 1 (.int .i64 d.size)).set 2 (.int .i64 d.mo)).set 3 (.int .i64 d.fuel)).set 4 (.bool d.off)).set 5 (.int .i64 d.bad)
  simp only [List.setIfInBounds_toArray, List.set_cons_zero, List.set_cons_succ] at b2
  have hkk : ∀ j, j ≠ p → (((((((w.setCell ⟨p, 0, none⟩ (.slice A n c)).setCell ⟨p, 1, none⟩ (.int .i64 d.size)).setCell ⟨p, 2, none⟩ (.int .i64 d.mo)).setCell ⟨p, 3, none⟩ (.int .i64 d.fuel)).setCell ⟨p, 4, none⟩ (.bool d.off)).setCell ⟨p, 5, none⟩ (.int .i64 d.bad))).heap[j]? = w.heap[j]? := fun j hj => (heap_set _ _ _ _ hj).trans ((heap_set _ _ _ _ hj).trans ((heap_set _ _ _ _ hj).trans ((heap_set _ _ _ _ hj).trans ((heap_set _ _ _ _ hj).trans (heap_set _ _ _ _ hj)))))
  exact ⟨A, c, hn, b2, Zns.off z b hkk (by simp)⟩
theorem q_make {w0 w : World} {p : Nat} {A : Option Addr} {n c : Nat} {d : Dv} (q : Q w0 w) (h : w0.heap.size ≤ p) : Q w0 ((((((w.setCell ⟨p, 0, none⟩ (.slice A n c)).setCell ⟨p, 1, none⟩ (.int .i64 d.size)).setCell ⟨p, 2, none⟩ (.int .i64 d.mo)).setCell ⟨p, 3, none⟩ (.int .i64 d.fuel)).setCell ⟨p, 4, none⟩ (.bool d.off)).setCell ⟨p, 5, none⟩ (.int .i64 d.bad)) :=
  Q.set (Q.set (Q.set (Q.set (Q.set (Q.set q h _) h _) h _) h _) h _) h _
theorem dev_c {P : Program} {f : Nat} {args : Array Value} {x : World} {r : Dv × Nat} {d : Dv} {k : Nat} {ki : Int} {n : Nat} (h : Calls P f args x (DevC r x)) (hr : r = (d, k)) (hk : ki = (k : Int)) (hn : n = d.zs.length) :
    Calls P f args x fun e w' => ∃ A c, e = .returned (.tuple #[.agg #[.slice A n c, .int .i64 d.size, .int .i64 d.mo, .int .i64 d.fuel, .bool d.off, .int .i64 d.bad], .int .i64 ki]) ∧ Zns w' w'.heap.size (.slice A n c) d.zs ∧ Q x w' := by
  subst hr hk hn
  refine h.mono ?_
  rintro e w' ⟨v, rfl, hz, q⟩
  obtain ⟨A, c, rfl⟩ := hz.form
  exact ⟨A, c, rfl, hz, q⟩
theorem z_make {w : World} {p : Nat} {A : Option Addr} {n c : Nat} {d : Dv} {v : Value} {l : List Zn} (b : Bx w p 24 #[.slice none 0 0, .int .i64 0, .int .i64 0, .int .i64 0, .bool false, .int .i64 0]) (z : Zns w w.heap.size v l) : Zns ((((((w.setCell ⟨p, 0, none⟩ (.slice A n c)).setCell ⟨p, 1, none⟩ (.int .i64 d.size)).setCell ⟨p, 2, none⟩ (.int .i64 d.mo)).setCell ⟨p, 3, none⟩ (.int .i64 d.fuel)).setCell ⟨p, 4, none⟩ (.bool d.off)).setCell ⟨p, 5, none⟩ (.int .i64 d.bad)) (((((((w.setCell ⟨p, 0, none⟩ (.slice A n c)).setCell ⟨p, 1, none⟩ (.int .i64 d.size)).setCell ⟨p, 2, none⟩ (.int .i64 d.mo)).setCell ⟨p, 3, none⟩ (.int .i64 d.fuel)).setCell ⟨p, 4, none⟩ (.bool d.off)).setCell ⟨p, 5, none⟩ (.int .i64 d.bad))).heap.size v l := by
  have hkk : ∀ j, j ≠ p → (((((((w.setCell ⟨p, 0, none⟩ (.slice A n c)).setCell ⟨p, 1, none⟩ (.int .i64 d.size)).setCell ⟨p, 2, none⟩ (.int .i64 d.mo)).setCell ⟨p, 3, none⟩ (.int .i64 d.fuel)).setCell ⟨p, 4, none⟩ (.bool d.off)).setCell ⟨p, 5, none⟩ (.int .i64 d.bad))).heap[j]? = w.heap[j]? := fun j hj => (heap_set _ _ _ _ hj).trans ((heap_set _ _ _ _ hj).trans ((heap_set _ _ _ _ hj).trans ((heap_set _ _ _ _ hj).trans ((heap_set _ _ _ _ hj).trans (heap_set _ _ _ _ hj)))))
  exact Zns.off z b hkk (by simp)
theorem b_make {w : World} {p p2 : Nat} {A : Option Addr} {n c : Nat} {d : Dv} {t : TypeId} {cs : Array Value} (h : Bx w p2 t cs) (k : p2 ≠ p) : Bx ((((((w.setCell ⟨p, 0, none⟩ (.slice A n c)).setCell ⟨p, 1, none⟩ (.int .i64 d.size)).setCell ⟨p, 2, none⟩ (.int .i64 d.mo)).setCell ⟨p, 3, none⟩ (.int .i64 d.fuel)).setCell ⟨p, 4, none⟩ (.bool d.off)).setCell ⟨p, 5, none⟩ (.int .i64 d.bad)) p2 t cs :=
  (((((h.other k _ _).other k _ _).other k _ _).other k _ _).other k _ _).other k _ _
theorem DB.make2 {w : World} {p p2 : Nat} {A : Option Addr} {n c n2 : Nat} {d d2 : Dv} (b : Bx w p 24 #[.slice none 0 0, .int .i64 0, .int .i64 0, .int .i64 0, .bool false, .int .i64 0]) (h : DB w p2 n2 d2) (k : p2 ≠ p) : DB ((((((w.setCell ⟨p, 0, none⟩ (.slice A n c)).setCell ⟨p, 1, none⟩ (.int .i64 d.size)).setCell ⟨p, 2, none⟩ (.int .i64 d.mo)).setCell ⟨p, 3, none⟩ (.int .i64 d.fuel)).setCell ⟨p, 4, none⟩ (.bool d.off)).setCell ⟨p, 5, none⟩ (.int .i64 d.bad)) p2 n2 d2 := by
  obtain ⟨A2, c2, e, b2, z⟩ := h
  exact ⟨A2, c2, e, b_make b2 k, z_make b z⟩
theorem crash_c {P : Program} {f : Nat} {args : Array Value} {x : World} {r d : Dv} {n : Nat} (h : Calls P f args x (fun e w' => ∃ v, e = .returned (dvV r v) ∧ Zns w' w'.heap.size v r.zs ∧ Q x w')) (hr : r = d) (hn : n = d.zs.length) :
    Calls P f args x fun e w' => ∃ A c, e = .returned (.agg #[.slice A n c, .int .i64 d.size, .int .i64 d.mo, .int .i64 d.fuel, .bool d.off, .int .i64 d.bad]) ∧ Zns w' w'.heap.size (.slice A n c) d.zs ∧ Q x w' := by
  subst hr hn
  refine h.mono ?_
  rintro e w' ⟨v, rfl, hz, q⟩
  obtain ⟨A, c, rfl⟩ := hz.form
  exact ⟨A, c, rfl, hz, q⟩
theorem crashZ0_any (d : Dv) (u : Value) (w : World) (hd : smD d) (ht : Zns w w.heap.size u d.zs) : Calls Try.prog 13 #[dvV d u, .agg #[.slice none 0 0, .int .i64 0, .int .i64 0]] w fun e w' => ∃ v, e = .returned (dvV (crashD d ⟨[], 0, 0⟩) v) ∧ Zns w' w'.heap.size v (crashD d ⟨[], 0, 0⟩).zs ∧ Q w w' :=
  crashZ_any d u ⟨[], 0, 0⟩ (.slice none 0 0) w hd ht (Ints.nil _ _)
attribute [local irreducible] aw0 awA awB awC awK awL awM octsB
set_option maxHeartbeats 16000000 in
theorem awake13_any (w : World) : Calls Try.prog 18 #[] w fun e w' => e = .returned (.bool true) ∧ Q w w' := by
  have hs1 : ∀ c, (octsB c 1).size ≤ 6400000 := fun c => by rw [octsB_size]; omega
  have hs2 : ∀ c, (octsB c 2).size ≤ 6400000 := fun c => by rw [octsB_size]; omega
  obtain ⟨d0, hd0⟩ : ∃ d, d = aw0 := ⟨_, rfl⟩
  obtain ⟨dA, hdA⟩ : ∃ d, d = awA := ⟨_, rfl⟩
  obtain ⟨n0, hn0⟩ : ∃ n, n = d0.zs.length := ⟨_, rfl⟩
  obtain ⟨nA, hnA⟩ : ∃ n, n = dA.zs.length := ⟨_, rfl⟩
  have Hn0 := Lib.hid hn0
  have HnA := Lib.hid hnA
  have N1 := Lib.hid (fun (x : World) => dev_c (d := d0) (ki := 0) (newZ_any 2 3 1 x) (by rw [hd0]; exact aw_new) rfl hn0)
  have A1 := Lib.hid (fun (x : World) => all_any 120 1 x (by decide) (by decide) (by decide))
  have A2 := Lib.hid (fun (x : World) => all_any 121 2 x (by decide) (by decide) (by decide))
  have A3 := Lib.hid (fun (x : World) => all_any 122 1 x (by decide) (by decide) (by decide))
  have sm0 : smD d0 := by rw [hd0]; exact sm_of aw_sm0
  have ok0_ : okN d0 := by rw [hd0]; exact aw_ok0
  have okA_ : okN dA := by rw [hdA]; exact aw_okA
  have smA : smD dA := by rw [hdA]; exact sm_of aw_smA
  obtain ⟨dB, hdB⟩ : ∃ d, d = awB := ⟨_, rfl⟩
  obtain ⟨dC, hdC⟩ : ∃ d, d = awC := ⟨_, rfl⟩
  obtain ⟨dK, hdK⟩ : ∃ d, d = awK := ⟨_, rfl⟩
  obtain ⟨dL, hdL⟩ : ∃ d, d = awL := ⟨_, rfl⟩
  obtain ⟨dM, hdM⟩ : ∃ d, d = awM := ⟨_, rfl⟩
  obtain ⟨nB, hnB⟩ : ∃ n, n = dB.zs.length := ⟨_, rfl⟩
  obtain ⟨nC, hnC⟩ : ∃ n, n = dC.zs.length := ⟨_, rfl⟩
  obtain ⟨nK, hnK⟩ : ∃ n, n = dK.zs.length := ⟨_, rfl⟩
  obtain ⟨nL, hnL⟩ : ∃ n, n = dL.zs.length := ⟨_, rfl⟩
  obtain ⟨nM, hnM⟩ : ∃ n, n = dM.zs.length := ⟨_, rfl⟩
  have HnB := Lib.hid hnB
  have HnC := Lib.hid hnC
  have HnK := Lib.hid hnK
  have HnL := Lib.hid hnL
  have HnM := Lib.hid hnM
  have okB_ : okN dB := by rw [hdB]; exact aw_okB
  have smB : smD dB := by rw [hdB]; exact sm_of aw_smB
  have smK : smD dK := by rw [hdK]; exact sm_of aw_smK
  have smL : smD dL := by rw [hdL]; exact sm_of aw_smL
  have hB2 : Hid (nB = 2) := Lib.hid (by rw [hnB, hdB]; exact aw_bl)
  have hM2 : Hid (nM = 2) := Lib.hid (by rw [hnM, hdM]; exact aw_ml)
  have hBf : Hid (∀ h : 0 < dB.zs.length, dB.zs[0].full = true) := Lib.hid (fun h => by subst hdB; exact aw_bf)
  have hMf : Hid (∀ h : 0 < dM.zs.length, dM.zs[0].full = true) := Lib.hid (fun h => by subst hdM; exact aw_mf)
  have hCb : Hid (dC.bad = 1) := Lib.hid (by rw [hdC]; exact aw_cb)
  have PB := Lib.hid (fun (x : World) (v : Value) (hz : Zns x x.heap.size v dA.zs) => dev_c (d := dB) (ki := 0) (appZ_any dA v 0 (octsB 121 2) x smA okA_ (hs2 _) hz) (by rw [hdA, hdB]; exact aw_b) rfl hnB)
  have PC := Lib.hid (fun (x : World) (v : Value) (hz : Zns x x.heap.size v dB.zs) => dev_c (d := dC) (ki := 8) (appZ_any dB v 0 (octsB 122 1) x smB okB_ (hs1 _) hz) (by rw [hdB, hdC]; exact aw_c) rfl hnC)
  have PK := Lib.hid (fun (x : World) (v : Value) (hz : Zns x x.heap.size v dA.zs) => dev_c (d := dK) (ki := 0) (fluZ_any dA v x smA okA_ hz) (by rw [hdA, hdK]; exact aw_k) rfl hnK)
  have hLA : crashD dA ⟨[], 0, 0⟩ = dL := by rw [hdA, hdL]; with_unfolding_all rfl
  have hMK : crashD dK ⟨[], 0, 0⟩ = dM := by rw [hdK, hdM]; with_unfolding_all rfl
  have CL := Lib.hid (fun (x : World) (v : Value) (hz : Zns x x.heap.size v dA.zs) => crash_c (d := dL) (crashZ0_any dA v x smA hz) hLA hnL)
  have CM := Lib.hid (fun (x : World) (v : Value) (hz : Zns x x.heap.size v dK.zs) => crash_c (d := dM) (crashZ0_any dK v x smK hz) hMK hnM)
  have SM := Lib.hid (fun (x : World) (u v : Value) (hu : Zns x x.heap.size u d0.zs) (hv : Zns x x.heap.size v d0.zs) => dsame_yes d0 u v x (by have := sm0.1; omega) (fun z hz => by have := sm0.2 z hz; omega) hu hv)
  have hL0 : Hid (dL = d0) := Lib.hid (by rw [hdL, hd0]; exact aw_lost)
  clear hLA hMK smB smK smL hdB hdC hdK hdL hdM hnB hnC hnK hnL hnM
  have PA := Lib.hid (fun (x : World) (v : Value) (hz : Zns x x.heap.size v d0.zs) => dev_c (d := dA) (ki := 0) (appZ_any d0 v 0 (octsB 120 1) x sm0 ok0_ (hs1 _) hz) (by rw [hd0, hdA]; exact aw_a) rfl hnA)
  clear hn0 hnA sm0 smA hs1 hs2
  clear hd0 hdA
  obtain ⟨s1, hs1⟩ : ∃ s, s = octsB 120 1 := ⟨_, rfl⟩
  obtain ⟨s2, hs2⟩ : ∃ s, s = octsB 121 2 := ⟨_, rfl⟩
  obtain ⟨s3, hs3⟩ : ∃ s, s = octsB 122 1 := ⟨_, rfl⟩
  rw [← hs1] at A1 PA
  rw [← hs2] at A2 PB
  rw [← hs3] at A3 PC
  clear hs1 hs2 hs3
  go_enter Try.func18, Try.ntmps18
  go_wp2_with fail
  refine (N1.out _).mono ?_
  rintro e w1 ⟨A, c, rfl, hz, q1⟩
  have b1 := DB.new Hn0.out hz
  have q2 := q1.alloc (.cells #[.slice A n0 c, .int .i64 d0.size, .int .i64 d0.mo, .int .i64 d0.fuel, .bool d0.off, .int .i64 d0.bad] 24)
  obtain ⟨wa, hwa⟩ : ∃ z, z = w1.alloc (.cells #[.slice A n0 c, .int .i64 d0.size, .int .i64 d0.mo, .int .i64 d0.fuel, .bool d0.off, .int .i64 d0.bad] 24) := ⟨_, rfl⟩
  obtain ⟨p0, hp0⟩ : ∃ z, z = w1.heap.size := ⟨_, rfl⟩
  rw [← hwa, ← hp0] at b1
  rw [← hwa] at q2
  go_upto_region 2 with fail
  rw [← hwa, ← hp0]
  clear hwa hp0 hz q1
  have Q1 := Lib.hid q2
  have D0 := Lib.hid b1
  clear q2 b1
  obtain ⟨A0, c0, -, b0, z0⟩ := D0.out
  have Bd0 := Lib.hid b0
  have Zd0 := Lib.hid z0
  have PA1 := Lib.hid (fun (x : World) (q : Q wa x) => PA.out x _ (z0.on q))
  unfold dvV at PA1
  clear b0 z0 PA D0
  go_cut [3, 4] from 17 to 22 (fun VP VE wx => ∃ p, VP = .pointer (some ⟨p, 0, none⟩) ∧ VE = .int .i64 0 ∧ wa.heap.size ≤ p ∧ DB wx p nA dA ∧ Q wa wx)
  case first =>
    have KS : Hid (∀ x, Q wa x → (fun (W : World) => W.cell? ⟨p0, 0, none⟩ = some (.slice A0 n0 c0) ∧ W.cell? ⟨p0, 1, none⟩ = some (.int .i64 d0.size) ∧ W.cell? ⟨p0, 2, none⟩ = some (.int .i64 d0.mo) ∧ W.cell? ⟨p0, 3, none⟩ = some (.int .i64 d0.fuel) ∧ W.cell? ⟨p0, 4, none⟩ = some (.bool d0.off) ∧ W.cell? ⟨p0, 5, none⟩ = some (.int .i64 d0.bad)) x) := Lib.hid (fun x q => ⟨(Bd0.out.on q).cell 0, (Bd0.out.on q).cell 1, (Bd0.out.on q).cell 2, (Bd0.out.on q).cell 3, (Bd0.out.on q).cell 4, (Bd0.out.on q).cell 5⟩)
    have q1 := (Q.refl wa).drew
    obtain ⟨wd, hwd⟩ : ∃ z, z = wa.drew := ⟨_, rfl⟩
    refine wp_region_held_drew (S := (fun (W : World) => W.cell? ⟨p0, 0, none⟩ = some (.slice A0 n0 c0) ∧ W.cell? ⟨p0, 1, none⟩ = some (.int .i64 d0.size) ∧ W.cell? ⟨p0, 2, none⟩ = some (.int .i64 d0.mo) ∧ W.cell? ⟨p0, 3, none⟩ = some (.int .i64 d0.fuel) ∧ W.cell? ⟨p0, 4, none⟩ = some (.bool d0.off) ∧ W.cell? ⟨p0, 5, none⟩ = some (.int .i64 d0.bad))) (by kernel_rfl) (KS.out _ q1) (fun hHeld => ?_)
    rw [← hwd] at q1 hHeld ⊢
    clear hwd
    have Qd := Lib.hid q1
    clear q1
    refine tkV 0 ?_
    refine aR [1, 6] ?_
    refine AllReadyH.cons (o := _) rfl (fun K hK => ?_) (AllReadyH.cons (o := _) rfl (fun K hK => ?_) AllReadyH.nil)
    · skip
      go_simp
      go_at_call 24
      refine (A1.out _).mono ?_
      rintro e w1 ⟨rfl, q⟩
      have Q1 := Lib.hid (Qd.out.trans q)
      clear q
      clear hHeld
      refine hK.out _ _ (KS.out _ Q1.out) (fun hHeld => ?_)
      clear hK K
      refine pg ?_
      refine aR [2, 6] ?_
      refine AllReadyH.cons (o := _) rfl (fun K hK => ?_) (AllReadyH.cons (o := _) rfl (fun K hK => ?_) AllReadyH.nil)
      · skip
        go_simp
        go_at_call 23
        refine (PA1.out _ Q1.out).mono ?_
        rintro e w2 ⟨A9, c9, rfl, hz9, q⟩
        have Q2 := Lib.hid (Q1.out.trans q)
        have Z9 := Lib.hid hz9
        clear q hz9
        clear hHeld
        refine hK.out _ _ (KS.out _ Q2.out) (fun hHeld => ?_)
        clear hK K
        refine pg ?_
        refine tkV 3 ?_
        refine tkV 4 ?_
        refine tkV 5 ?_
        refine aR [6] ?_
        refine AllReadyH.cons (o := _) rfl (fun K hK => ?_) AllReadyH.nil
        · skip
          go_simp
          have q := (Q.refl w2).alloc (.cells #[.slice none 0 0, .int .i64 0, .int .i64 0, .int .i64 0, .bool false, .int .i64 0] 24)
          have b := Bx.new w2 24 #[.slice none 0 0, .int .i64 0, .int .i64 0, .int .i64 0, .bool false, .int .i64 0]
          have hp9 := Q2.out.size
          obtain ⟨w3, hw⟩ : ∃ z, z = w2.alloc (.cells #[.slice none 0 0, .int .i64 0, .int .i64 0, .int .i64 0, .bool false, .int .i64 0] 24) := ⟨_, rfl⟩
          rw [← hw] at q b
          rw [← hw]
          clear hw
          obtain ⟨p9, hp⟩ : ∃ z, z = w2.heap.size := ⟨_, rfl⟩
          rw [← hp] at b hp9 ⊢
          clear hp
          have b7 := Lib.hid b
          have Q3 := Lib.hid (Q2.out.trans q)
          have Z9 := Lib.hid (Z9.out.on q)
          clear q b
          clear hHeld
          refine hK.out _ _ (KS.out _ Q3.out) (fun hHeld => ?_)
          clear hK K
          refine pg ?_
          have q9 := q_make (A := A9) (n := nA) (c := c9) (d := dA) Q3.out hp9
          have b9 := DB.make (d := dA) b7.out HnA.out Z9.out
          have f0 := b7.out.cell 0
          have f1 := b7.out.cell 1
          have f2 := b7.out.cell 2
          have f3 := b7.out.cell 3
          have f4 := b7.out.cell 4
          have f5 := b7.out.cell 5
          have g0 := b7.out.frozen 0
          have g1 := b7.out.frozen 1
          have g2 := b7.out.frozen 2
          have g3 := b7.out.frozen 3
          have g4 := b7.out.frozen 4
          have g5 := b7.out.frozen 5
          obtain ⟨we, hwe⟩ : ∃ z, z = ((((((w3.setCell ⟨p9, 0, none⟩ (.slice A9 nA c9)).setCell ⟨p9, 1, none⟩ (.int .i64 dA.size)).setCell ⟨p9, 2, none⟩ (.int .i64 dA.mo)).setCell ⟨p9, 3, none⟩ (.int .i64 dA.fuel)).setCell ⟨p9, 4, none⟩ (.bool dA.off)).setCell ⟨p9, 5, none⟩ (.int .i64 dA.bad)) := ⟨_, rfl⟩
          rw [← hwe] at q9 b9
          refine aR [7] ?_
          refine AllReadyH.cons (o := _) rfl (fun K hK => ?_) AllReadyH.nil
          go_simp
          rw [← hwe]
          clear hwe f0 f1 f2 f3 f4 f5 g0 g1 g2 g3 g4 g5
          clear hHeld
          refine hK.out _ _ (KS.out _ q9) (fun hHeld => ?_)
          clear hK K
          refine pg ?_
          refine tkV 8 ?_
          refine wpAnyH_done (by kernel_rfl) ?_ _
          go_wp2_with fail
          go_meet
          exact ⟨p9, rfl, rfl, hp9, b9, q9⟩
      · skip
        go_simp
        have q := (Q.refl w1).alloc (.cells #[.slice none 0 0, .int .i64 0, .int .i64 0, .int .i64 0, .bool false, .int .i64 0] 24)
        have b := Bx.new w1 24 #[.slice none 0 0, .int .i64 0, .int .i64 0, .int .i64 0, .bool false, .int .i64 0]
        have hp9 := Q1.out.size
        obtain ⟨w2, hw⟩ : ∃ z, z = w1.alloc (.cells #[.slice none 0 0, .int .i64 0, .int .i64 0, .int .i64 0, .bool false, .int .i64 0] 24) := ⟨_, rfl⟩
        rw [← hw] at q b
        rw [← hw]
        clear hw
        obtain ⟨p9, hp⟩ : ∃ z, z = w1.heap.size := ⟨_, rfl⟩
        rw [← hp] at b hp9 ⊢
        clear hp
        have b7 := Lib.hid b
        have Q2 := Lib.hid (Q1.out.trans q)
        clear q b
        clear hHeld
        refine hK.out _ _ (KS.out _ Q2.out) (fun hHeld => ?_)
        clear hK K
        refine pg ?_
        refine aR [2] ?_
        refine AllReadyH.cons (o := _) rfl (fun K hK => ?_) AllReadyH.nil
        · skip
          go_simp
          go_at_call 23
          refine (PA1.out _ Q2.out).mono ?_
          rintro e w3 ⟨A9, c9, rfl, hz9, q⟩
          have Q3 := Lib.hid (Q2.out.trans q)
          have Z9 := Lib.hid hz9
          have b7 := Lib.hid (b7.out.on q)
          clear q hz9
          clear hHeld
          refine hK.out _ _ (KS.out _ Q3.out) (fun hHeld => ?_)
          clear hK K
          refine pg ?_
          refine tkV 3 ?_
          refine tkV 4 ?_
          refine tkV 5 ?_
          have q9 := q_make (A := A9) (n := nA) (c := c9) (d := dA) Q3.out hp9
          have b9 := DB.make (d := dA) b7.out HnA.out Z9.out
          have f0 := b7.out.cell 0
          have f1 := b7.out.cell 1
          have f2 := b7.out.cell 2
          have f3 := b7.out.cell 3
          have f4 := b7.out.cell 4
          have f5 := b7.out.cell 5
          have g0 := b7.out.frozen 0
          have g1 := b7.out.frozen 1
          have g2 := b7.out.frozen 2
          have g3 := b7.out.frozen 3
          have g4 := b7.out.frozen 4
          have g5 := b7.out.frozen 5
          obtain ⟨we, hwe⟩ : ∃ z, z = ((((((w3.setCell ⟨p9, 0, none⟩ (.slice A9 nA c9)).setCell ⟨p9, 1, none⟩ (.int .i64 dA.size)).setCell ⟨p9, 2, none⟩ (.int .i64 dA.mo)).setCell ⟨p9, 3, none⟩ (.int .i64 dA.fuel)).setCell ⟨p9, 4, none⟩ (.bool dA.off)).setCell ⟨p9, 5, none⟩ (.int .i64 dA.bad)) := ⟨_, rfl⟩
          rw [← hwe] at q9 b9
          refine aR [7] ?_
          refine AllReadyH.cons (o := _) rfl (fun K hK => ?_) AllReadyH.nil
          go_simp
          rw [← hwe]
          clear hwe f0 f1 f2 f3 f4 f5 g0 g1 g2 g3 g4 g5
          clear hHeld
          refine hK.out _ _ (KS.out _ q9) (fun hHeld => ?_)
          clear hK K
          refine pg ?_
          refine tkV 8 ?_
          refine wpAnyH_done (by kernel_rfl) ?_ _
          go_wp2_with fail
          go_meet
          exact ⟨p9, rfl, rfl, hp9, b9, q9⟩
    · skip
      go_simp
      have q := (Q.refl wd).alloc (.cells #[.slice none 0 0, .int .i64 0, .int .i64 0, .int .i64 0, .bool false, .int .i64 0] 24)
      have b := Bx.new wd 24 #[.slice none 0 0, .int .i64 0, .int .i64 0, .int .i64 0, .bool false, .int .i64 0]
      have hp9 := Qd.out.size
      obtain ⟨w1, hw⟩ : ∃ z, z = wd.alloc (.cells #[.slice none 0 0, .int .i64 0, .int .i64 0, .int .i64 0, .bool false, .int .i64 0] 24) := ⟨_, rfl⟩
      rw [← hw] at q b
      rw [← hw]
      clear hw
      obtain ⟨p9, hp⟩ : ∃ z, z = wd.heap.size := ⟨_, rfl⟩
      rw [← hp] at b hp9 ⊢
      clear hp
      have b7 := Lib.hid b
      have Q1 := Lib.hid (Qd.out.trans q)
      clear q b
      clear hHeld
      refine hK.out _ _ (KS.out _ Q1.out) (fun hHeld => ?_)
      clear hK K
      refine pg ?_
      refine aR [1] ?_
      refine AllReadyH.cons (o := _) rfl (fun K hK => ?_) AllReadyH.nil
      · skip
        go_simp
        go_at_call 24
        refine (A1.out _).mono ?_
        rintro e w2 ⟨rfl, q⟩
        have Q2 := Lib.hid (Q1.out.trans q)
        have b7 := Lib.hid (b7.out.on q)
        clear q
        clear hHeld
        refine hK.out _ _ (KS.out _ Q2.out) (fun hHeld => ?_)
        clear hK K
        refine pg ?_
        refine aR [2] ?_
        refine AllReadyH.cons (o := _) rfl (fun K hK => ?_) AllReadyH.nil
        · skip
          go_simp
          go_at_call 23
          refine (PA1.out _ Q2.out).mono ?_
          rintro e w3 ⟨A9, c9, rfl, hz9, q⟩
          have Q3 := Lib.hid (Q2.out.trans q)
          have Z9 := Lib.hid hz9
          have b7 := Lib.hid (b7.out.on q)
          clear q hz9
          clear hHeld
          refine hK.out _ _ (KS.out _ Q3.out) (fun hHeld => ?_)
          clear hK K
          refine pg ?_
          refine tkV 3 ?_
          refine tkV 4 ?_
          refine tkV 5 ?_
          have q9 := q_make (A := A9) (n := nA) (c := c9) (d := dA) Q3.out hp9
          have b9 := DB.make (d := dA) b7.out HnA.out Z9.out
          have f0 := b7.out.cell 0
          have f1 := b7.out.cell 1
          have f2 := b7.out.cell 2
          have f3 := b7.out.cell 3
          have f4 := b7.out.cell 4
          have f5 := b7.out.cell 5
          have g0 := b7.out.frozen 0
          have g1 := b7.out.frozen 1
          have g2 := b7.out.frozen 2
          have g3 := b7.out.frozen 3
          have g4 := b7.out.frozen 4
          have g5 := b7.out.frozen 5
          obtain ⟨we, hwe⟩ : ∃ z, z = ((((((w3.setCell ⟨p9, 0, none⟩ (.slice A9 nA c9)).setCell ⟨p9, 1, none⟩ (.int .i64 dA.size)).setCell ⟨p9, 2, none⟩ (.int .i64 dA.mo)).setCell ⟨p9, 3, none⟩ (.int .i64 dA.fuel)).setCell ⟨p9, 4, none⟩ (.bool dA.off)).setCell ⟨p9, 5, none⟩ (.int .i64 dA.bad)) := ⟨_, rfl⟩
          rw [← hwe] at q9 b9
          refine aR [7] ?_
          refine AllReadyH.cons (o := _) rfl (fun K hK => ?_) AllReadyH.nil
          go_simp
          rw [← hwe]
          clear hwe f0 f1 f2 f3 f4 f5 g0 g1 g2 g3 g4 g5
          clear hHeld
          refine hK.out _ _ (KS.out _ q9) (fun hHeld => ?_)
          clear hK K
          refine pg ?_
          refine tkV 8 ?_
          refine wpAnyH_done (by kernel_rfl) ?_ _
          go_wp2_with fail
          go_meet
          exact ⟨p9, rfl, rfl, hp9, b9, q9⟩
  case rest =>
    obtain ⟨pA, rfl, rfl, -, b1, q1⟩ := hcut
    obtain ⟨wb, hwb⟩ : ∃ z, z = wc := ⟨_, rfl⟩
    subst hwb
    have Q2 := Lib.hid (Q1.out.trans q1)
    have Bd0 := Lib.hid (Bd0.out.on q1)
    have Zd0 := Lib.hid (Zd0.out.on q1)
    have DA := Lib.hid b1
    clear b1 q1 Q1
    obtain ⟨AA, cA, -, b0, z0⟩ := DA.out
    have BdA := Lib.hid b0
    have ZdA := Lib.hid z0
    have PB1 := Lib.hid (fun (x : World) (q : Q wb x) => PB.out x _ (z0.on q))
    unfold dvV at PB1
    clear b0 z0
    go_upto_region 3 with fail
    go_cut [5, 6] from 23 to 28 (fun VP VE wx => ∃ p, VP = .pointer (some ⟨p, 0, none⟩) ∧ VE = .int .i64 0 ∧ wb.heap.size ≤ p ∧ DB wx p nB dB ∧ Q wb wx)
    case first =>
      have KS : Hid (∀ x, Q wb x → (fun (W : World) => W.cell? ⟨pA, 0, none⟩ = some (.slice AA nA cA) ∧ W.cell? ⟨pA, 1, none⟩ = some (.int .i64 dA.size) ∧ W.cell? ⟨pA, 2, none⟩ = some (.int .i64 dA.mo) ∧ W.cell? ⟨pA, 3, none⟩ = some (.int .i64 dA.fuel) ∧ W.cell? ⟨pA, 4, none⟩ = some (.bool dA.off) ∧ W.cell? ⟨pA, 5, none⟩ = some (.int .i64 dA.bad)) x) := Lib.hid (fun x q => ⟨(BdA.out.on q).cell 0, (BdA.out.on q).cell 1, (BdA.out.on q).cell 2, (BdA.out.on q).cell 3, (BdA.out.on q).cell 4, (BdA.out.on q).cell 5⟩)
      have q1 := (Q.refl wb).drew
      obtain ⟨wd, hwd⟩ : ∃ z, z = wb.drew := ⟨_, rfl⟩
      refine wp_region_held_drew (S := (fun (W : World) => W.cell? ⟨pA, 0, none⟩ = some (.slice AA nA cA) ∧ W.cell? ⟨pA, 1, none⟩ = some (.int .i64 dA.size) ∧ W.cell? ⟨pA, 2, none⟩ = some (.int .i64 dA.mo) ∧ W.cell? ⟨pA, 3, none⟩ = some (.int .i64 dA.fuel) ∧ W.cell? ⟨pA, 4, none⟩ = some (.bool dA.off) ∧ W.cell? ⟨pA, 5, none⟩ = some (.int .i64 dA.bad))) (by kernel_rfl) (KS.out _ q1) (fun hHeld => ?_)
      rw [← hwd] at q1 hHeld ⊢
      clear hwd
      have Qd := Lib.hid q1
      clear q1
      refine tkV 0 ?_
      refine aR [1, 6] ?_
      refine AllReadyH.cons (o := _) rfl (fun K hK => ?_) (AllReadyH.cons (o := _) rfl (fun K hK => ?_) AllReadyH.nil)
      · skip
        go_simp
        go_at_call 24
        refine (A2.out _).mono ?_
        rintro e w1 ⟨rfl, q⟩
        have Q1 := Lib.hid (Qd.out.trans q)
        clear q
        clear hHeld
        refine hK.out _ _ (KS.out _ Q1.out) (fun hHeld => ?_)
        clear hK K
        refine pg ?_
        refine aR [2, 6] ?_
        refine AllReadyH.cons (o := _) rfl (fun K hK => ?_) (AllReadyH.cons (o := _) rfl (fun K hK => ?_) AllReadyH.nil)
        · skip
          go_simp
          go_at_call 23
          refine (PB1.out _ Q1.out).mono ?_
          rintro e w2 ⟨A9, c9, rfl, hz9, q⟩
          have Q2 := Lib.hid (Q1.out.trans q)
          have Z9 := Lib.hid hz9
          clear q hz9
          clear hHeld
          refine hK.out _ _ (KS.out _ Q2.out) (fun hHeld => ?_)
          clear hK K
          refine pg ?_
          refine tkV 3 ?_
          refine tkV 4 ?_
          refine tkV 5 ?_
          refine aR [6] ?_
          refine AllReadyH.cons (o := _) rfl (fun K hK => ?_) AllReadyH.nil
          · skip
            go_simp
            have q := (Q.refl w2).alloc (.cells #[.slice none 0 0, .int .i64 0, .int .i64 0, .int .i64 0, .bool false, .int .i64 0] 24)
            have b := Bx.new w2 24 #[.slice none 0 0, .int .i64 0, .int .i64 0, .int .i64 0, .bool false, .int .i64 0]
            have hp9 := Q2.out.size
            obtain ⟨w3, hw⟩ : ∃ z, z = w2.alloc (.cells #[.slice none 0 0, .int .i64 0, .int .i64 0, .int .i64 0, .bool false, .int .i64 0] 24) := ⟨_, rfl⟩
            rw [← hw] at q b
            rw [← hw]
            clear hw
            obtain ⟨p9, hp⟩ : ∃ z, z = w2.heap.size := ⟨_, rfl⟩
            rw [← hp] at b hp9 ⊢
            clear hp
            have b7 := Lib.hid b
            have Q3 := Lib.hid (Q2.out.trans q)
            have Z9 := Lib.hid (Z9.out.on q)
            clear q b
            clear hHeld
            refine hK.out _ _ (KS.out _ Q3.out) (fun hHeld => ?_)
            clear hK K
            refine pg ?_
            have q9 := q_make (A := A9) (n := nB) (c := c9) (d := dB) Q3.out hp9
            have b9 := DB.make (d := dB) b7.out HnB.out Z9.out
            have f0 := b7.out.cell 0
            have f1 := b7.out.cell 1
            have f2 := b7.out.cell 2
            have f3 := b7.out.cell 3
            have f4 := b7.out.cell 4
            have f5 := b7.out.cell 5
            have g0 := b7.out.frozen 0
            have g1 := b7.out.frozen 1
            have g2 := b7.out.frozen 2
            have g3 := b7.out.frozen 3
            have g4 := b7.out.frozen 4
            have g5 := b7.out.frozen 5
            obtain ⟨we, hwe⟩ : ∃ z, z = ((((((w3.setCell ⟨p9, 0, none⟩ (.slice A9 nB c9)).setCell ⟨p9, 1, none⟩ (.int .i64 dB.size)).setCell ⟨p9, 2, none⟩ (.int .i64 dB.mo)).setCell ⟨p9, 3, none⟩ (.int .i64 dB.fuel)).setCell ⟨p9, 4, none⟩ (.bool dB.off)).setCell ⟨p9, 5, none⟩ (.int .i64 dB.bad)) := ⟨_, rfl⟩
            rw [← hwe] at q9 b9
            refine aR [7] ?_
            refine AllReadyH.cons (o := _) rfl (fun K hK => ?_) AllReadyH.nil
            go_simp
            rw [← hwe]
            clear hwe f0 f1 f2 f3 f4 f5 g0 g1 g2 g3 g4 g5
            clear hHeld
            refine hK.out _ _ (KS.out _ q9) (fun hHeld => ?_)
            clear hK K
            refine pg ?_
            refine tkV 8 ?_
            refine wpAnyH_done (by kernel_rfl) ?_ _
            go_wp2_with fail
            go_meet
            exact ⟨p9, rfl, rfl, hp9, b9, q9⟩
        · skip
          go_simp
          have q := (Q.refl w1).alloc (.cells #[.slice none 0 0, .int .i64 0, .int .i64 0, .int .i64 0, .bool false, .int .i64 0] 24)
          have b := Bx.new w1 24 #[.slice none 0 0, .int .i64 0, .int .i64 0, .int .i64 0, .bool false, .int .i64 0]
          have hp9 := Q1.out.size
          obtain ⟨w2, hw⟩ : ∃ z, z = w1.alloc (.cells #[.slice none 0 0, .int .i64 0, .int .i64 0, .int .i64 0, .bool false, .int .i64 0] 24) := ⟨_, rfl⟩
          rw [← hw] at q b
          rw [← hw]
          clear hw
          obtain ⟨p9, hp⟩ : ∃ z, z = w1.heap.size := ⟨_, rfl⟩
          rw [← hp] at b hp9 ⊢
          clear hp
          have b7 := Lib.hid b
          have Q2 := Lib.hid (Q1.out.trans q)
          clear q b
          clear hHeld
          refine hK.out _ _ (KS.out _ Q2.out) (fun hHeld => ?_)
          clear hK K
          refine pg ?_
          refine aR [2] ?_
          refine AllReadyH.cons (o := _) rfl (fun K hK => ?_) AllReadyH.nil
          · skip
            go_simp
            go_at_call 23
            refine (PB1.out _ Q2.out).mono ?_
            rintro e w3 ⟨A9, c9, rfl, hz9, q⟩
            have Q3 := Lib.hid (Q2.out.trans q)
            have Z9 := Lib.hid hz9
            have b7 := Lib.hid (b7.out.on q)
            clear q hz9
            clear hHeld
            refine hK.out _ _ (KS.out _ Q3.out) (fun hHeld => ?_)
            clear hK K
            refine pg ?_
            refine tkV 3 ?_
            refine tkV 4 ?_
            refine tkV 5 ?_
            have q9 := q_make (A := A9) (n := nB) (c := c9) (d := dB) Q3.out hp9
            have b9 := DB.make (d := dB) b7.out HnB.out Z9.out
            have f0 := b7.out.cell 0
            have f1 := b7.out.cell 1
            have f2 := b7.out.cell 2
            have f3 := b7.out.cell 3
            have f4 := b7.out.cell 4
            have f5 := b7.out.cell 5
            have g0 := b7.out.frozen 0
            have g1 := b7.out.frozen 1
            have g2 := b7.out.frozen 2
            have g3 := b7.out.frozen 3
            have g4 := b7.out.frozen 4
            have g5 := b7.out.frozen 5
            obtain ⟨we, hwe⟩ : ∃ z, z = ((((((w3.setCell ⟨p9, 0, none⟩ (.slice A9 nB c9)).setCell ⟨p9, 1, none⟩ (.int .i64 dB.size)).setCell ⟨p9, 2, none⟩ (.int .i64 dB.mo)).setCell ⟨p9, 3, none⟩ (.int .i64 dB.fuel)).setCell ⟨p9, 4, none⟩ (.bool dB.off)).setCell ⟨p9, 5, none⟩ (.int .i64 dB.bad)) := ⟨_, rfl⟩
            rw [← hwe] at q9 b9
            refine aR [7] ?_
            refine AllReadyH.cons (o := _) rfl (fun K hK => ?_) AllReadyH.nil
            go_simp
            rw [← hwe]
            clear hwe f0 f1 f2 f3 f4 f5 g0 g1 g2 g3 g4 g5
            clear hHeld
            refine hK.out _ _ (KS.out _ q9) (fun hHeld => ?_)
            clear hK K
            refine pg ?_
            refine tkV 8 ?_
            refine wpAnyH_done (by kernel_rfl) ?_ _
            go_wp2_with fail
            go_meet
            exact ⟨p9, rfl, rfl, hp9, b9, q9⟩
      · skip
        go_simp
        have q := (Q.refl wd).alloc (.cells #[.slice none 0 0, .int .i64 0, .int .i64 0, .int .i64 0, .bool false, .int .i64 0] 24)
        have b := Bx.new wd 24 #[.slice none 0 0, .int .i64 0, .int .i64 0, .int .i64 0, .bool false, .int .i64 0]
        have hp9 := Qd.out.size
        obtain ⟨w1, hw⟩ : ∃ z, z = wd.alloc (.cells #[.slice none 0 0, .int .i64 0, .int .i64 0, .int .i64 0, .bool false, .int .i64 0] 24) := ⟨_, rfl⟩
        rw [← hw] at q b
        rw [← hw]
        clear hw
        obtain ⟨p9, hp⟩ : ∃ z, z = wd.heap.size := ⟨_, rfl⟩
        rw [← hp] at b hp9 ⊢
        clear hp
        have b7 := Lib.hid b
        have Q1 := Lib.hid (Qd.out.trans q)
        clear q b
        clear hHeld
        refine hK.out _ _ (KS.out _ Q1.out) (fun hHeld => ?_)
        clear hK K
        refine pg ?_
        refine aR [1] ?_
        refine AllReadyH.cons (o := _) rfl (fun K hK => ?_) AllReadyH.nil
        · skip
          go_simp
          go_at_call 24
          refine (A2.out _).mono ?_
          rintro e w2 ⟨rfl, q⟩
          have Q2 := Lib.hid (Q1.out.trans q)
          have b7 := Lib.hid (b7.out.on q)
          clear q
          clear hHeld
          refine hK.out _ _ (KS.out _ Q2.out) (fun hHeld => ?_)
          clear hK K
          refine pg ?_
          refine aR [2] ?_
          refine AllReadyH.cons (o := _) rfl (fun K hK => ?_) AllReadyH.nil
          · skip
            go_simp
            go_at_call 23
            refine (PB1.out _ Q2.out).mono ?_
            rintro e w3 ⟨A9, c9, rfl, hz9, q⟩
            have Q3 := Lib.hid (Q2.out.trans q)
            have Z9 := Lib.hid hz9
            have b7 := Lib.hid (b7.out.on q)
            clear q hz9
            clear hHeld
            refine hK.out _ _ (KS.out _ Q3.out) (fun hHeld => ?_)
            clear hK K
            refine pg ?_
            refine tkV 3 ?_
            refine tkV 4 ?_
            refine tkV 5 ?_
            have q9 := q_make (A := A9) (n := nB) (c := c9) (d := dB) Q3.out hp9
            have b9 := DB.make (d := dB) b7.out HnB.out Z9.out
            have f0 := b7.out.cell 0
            have f1 := b7.out.cell 1
            have f2 := b7.out.cell 2
            have f3 := b7.out.cell 3
            have f4 := b7.out.cell 4
            have f5 := b7.out.cell 5
            have g0 := b7.out.frozen 0
            have g1 := b7.out.frozen 1
            have g2 := b7.out.frozen 2
            have g3 := b7.out.frozen 3
            have g4 := b7.out.frozen 4
            have g5 := b7.out.frozen 5
            obtain ⟨we, hwe⟩ : ∃ z, z = ((((((w3.setCell ⟨p9, 0, none⟩ (.slice A9 nB c9)).setCell ⟨p9, 1, none⟩ (.int .i64 dB.size)).setCell ⟨p9, 2, none⟩ (.int .i64 dB.mo)).setCell ⟨p9, 3, none⟩ (.int .i64 dB.fuel)).setCell ⟨p9, 4, none⟩ (.bool dB.off)).setCell ⟨p9, 5, none⟩ (.int .i64 dB.bad)) := ⟨_, rfl⟩
            rw [← hwe] at q9 b9
            refine aR [7] ?_
            refine AllReadyH.cons (o := _) rfl (fun K hK => ?_) AllReadyH.nil
            go_simp
            rw [← hwe]
            clear hwe f0 f1 f2 f3 f4 f5 g0 g1 g2 g3 g4 g5
            clear hHeld
            refine hK.out _ _ (KS.out _ q9) (fun hHeld => ?_)
            clear hK K
            refine pg ?_
            refine tkV 8 ?_
            refine wpAnyH_done (by kernel_rfl) ?_ _
            go_wp2_with fail
            go_meet
            exact ⟨p9, rfl, rfl, hp9, b9, q9⟩
    case rest =>
      obtain ⟨pB, rfl, rfl, -, b1, q1⟩ := hcut
      obtain ⟨wb2, hwb⟩ : ∃ z, z = wc := ⟨_, rfl⟩
      subst hwb
      have Q3 := Lib.hid (Q2.out.trans q1)
      have Bd0 := Lib.hid (Bd0.out.on q1)
      have Zd0 := Lib.hid (Zd0.out.on q1)
      have BdA := Lib.hid (BdA.out.on q1)
      have ZdA := Lib.hid (ZdA.out.on q1)
      have DB0 := Lib.hid b1
      clear b1 q1 Q2 DA
      obtain ⟨AB, cB, -, b0, z0⟩ := DB0.out
      have BdB := Lib.hid b0
      have ZdB := Lib.hid z0
      have PC1 := Lib.hid (fun (x : World) (q : Q wb2 x) => PC.out x _ (z0.on q))
      unfold dvV at PC1
      clear b0 z0
      go_upto_region 4 with fail
      go_cut [7, 8] from 29 to 34 (fun VP VE wx => ∃ p, VP = .pointer (some ⟨p, 0, none⟩) ∧ VE = .int .i64 8 ∧ wb2.heap.size ≤ p ∧ DB wx p nC dC ∧ Q wb2 wx)
      case first =>
        have KS : Hid (∀ x, Q wb2 x → (fun (W : World) => W.cell? ⟨pB, 0, none⟩ = some (.slice AB nB cB) ∧ W.cell? ⟨pB, 1, none⟩ = some (.int .i64 dB.size) ∧ W.cell? ⟨pB, 2, none⟩ = some (.int .i64 dB.mo) ∧ W.cell? ⟨pB, 3, none⟩ = some (.int .i64 dB.fuel) ∧ W.cell? ⟨pB, 4, none⟩ = some (.bool dB.off) ∧ W.cell? ⟨pB, 5, none⟩ = some (.int .i64 dB.bad)) x) := Lib.hid (fun x q => ⟨(BdB.out.on q).cell 0, (BdB.out.on q).cell 1, (BdB.out.on q).cell 2, (BdB.out.on q).cell 3, (BdB.out.on q).cell 4, (BdB.out.on q).cell 5⟩)
        have q1 := (Q.refl wb2).drew
        obtain ⟨wd, hwd⟩ : ∃ z, z = wb2.drew := ⟨_, rfl⟩
        refine wp_region_held_drew (S := (fun (W : World) => W.cell? ⟨pB, 0, none⟩ = some (.slice AB nB cB) ∧ W.cell? ⟨pB, 1, none⟩ = some (.int .i64 dB.size) ∧ W.cell? ⟨pB, 2, none⟩ = some (.int .i64 dB.mo) ∧ W.cell? ⟨pB, 3, none⟩ = some (.int .i64 dB.fuel) ∧ W.cell? ⟨pB, 4, none⟩ = some (.bool dB.off) ∧ W.cell? ⟨pB, 5, none⟩ = some (.int .i64 dB.bad))) (by kernel_rfl) (KS.out _ q1) (fun hHeld => ?_)
        rw [← hwd] at q1 hHeld ⊢
        clear hwd
        have Qd := Lib.hid q1
        clear q1
        refine tkV 0 ?_
        refine aR [1, 6] ?_
        refine AllReadyH.cons (o := _) rfl (fun K hK => ?_) (AllReadyH.cons (o := _) rfl (fun K hK => ?_) AllReadyH.nil)
        · skip
          go_simp
          go_at_call 24
          refine (A3.out _).mono ?_
          rintro e w1 ⟨rfl, q⟩
          have Q1 := Lib.hid (Qd.out.trans q)
          clear q
          clear hHeld
          refine hK.out _ _ (KS.out _ Q1.out) (fun hHeld => ?_)
          clear hK K
          refine pg ?_
          refine aR [2, 6] ?_
          refine AllReadyH.cons (o := _) rfl (fun K hK => ?_) (AllReadyH.cons (o := _) rfl (fun K hK => ?_) AllReadyH.nil)
          · skip
            go_simp
            go_at_call 23
            refine (PC1.out _ Q1.out).mono ?_
            rintro e w2 ⟨A9, c9, rfl, hz9, q⟩
            have Q2 := Lib.hid (Q1.out.trans q)
            have Z9 := Lib.hid hz9
            clear q hz9
            clear hHeld
            refine hK.out _ _ (KS.out _ Q2.out) (fun hHeld => ?_)
            clear hK K
            refine pg ?_
            refine tkV 3 ?_
            refine tkV 4 ?_
            refine tkV 5 ?_
            refine aR [6] ?_
            refine AllReadyH.cons (o := _) rfl (fun K hK => ?_) AllReadyH.nil
            · skip
              go_simp
              have q := (Q.refl w2).alloc (.cells #[.slice none 0 0, .int .i64 0, .int .i64 0, .int .i64 0, .bool false, .int .i64 0] 24)
              have b := Bx.new w2 24 #[.slice none 0 0, .int .i64 0, .int .i64 0, .int .i64 0, .bool false, .int .i64 0]
              have hp9 := Q2.out.size
              obtain ⟨w3, hw⟩ : ∃ z, z = w2.alloc (.cells #[.slice none 0 0, .int .i64 0, .int .i64 0, .int .i64 0, .bool false, .int .i64 0] 24) := ⟨_, rfl⟩
              rw [← hw] at q b
              rw [← hw]
              clear hw
              obtain ⟨p9, hp⟩ : ∃ z, z = w2.heap.size := ⟨_, rfl⟩
              rw [← hp] at b hp9 ⊢
              clear hp
              have b7 := Lib.hid b
              have Q3 := Lib.hid (Q2.out.trans q)
              have Z9 := Lib.hid (Z9.out.on q)
              clear q b
              clear hHeld
              refine hK.out _ _ (KS.out _ Q3.out) (fun hHeld => ?_)
              clear hK K
              refine pg ?_
              have q9 := q_make (A := A9) (n := nC) (c := c9) (d := dC) Q3.out hp9
              have b9 := DB.make (d := dC) b7.out HnC.out Z9.out
              have f0 := b7.out.cell 0
              have f1 := b7.out.cell 1
              have f2 := b7.out.cell 2
              have f3 := b7.out.cell 3
              have f4 := b7.out.cell 4
              have f5 := b7.out.cell 5
              have g0 := b7.out.frozen 0
              have g1 := b7.out.frozen 1
              have g2 := b7.out.frozen 2
              have g3 := b7.out.frozen 3
              have g4 := b7.out.frozen 4
              have g5 := b7.out.frozen 5
              obtain ⟨we, hwe⟩ : ∃ z, z = ((((((w3.setCell ⟨p9, 0, none⟩ (.slice A9 nC c9)).setCell ⟨p9, 1, none⟩ (.int .i64 dC.size)).setCell ⟨p9, 2, none⟩ (.int .i64 dC.mo)).setCell ⟨p9, 3, none⟩ (.int .i64 dC.fuel)).setCell ⟨p9, 4, none⟩ (.bool dC.off)).setCell ⟨p9, 5, none⟩ (.int .i64 dC.bad)) := ⟨_, rfl⟩
              rw [← hwe] at q9 b9
              refine aR [7] ?_
              refine AllReadyH.cons (o := _) rfl (fun K hK => ?_) AllReadyH.nil
              go_simp
              rw [← hwe]
              clear hwe f0 f1 f2 f3 f4 f5 g0 g1 g2 g3 g4 g5
              clear hHeld
              refine hK.out _ _ (KS.out _ q9) (fun hHeld => ?_)
              clear hK K
              refine pg ?_
              refine tkV 8 ?_
              refine wpAnyH_done (by kernel_rfl) ?_ _
              go_wp2_with fail
              go_meet
              exact ⟨p9, rfl, rfl, hp9, b9, q9⟩
          · skip
            go_simp
            have q := (Q.refl w1).alloc (.cells #[.slice none 0 0, .int .i64 0, .int .i64 0, .int .i64 0, .bool false, .int .i64 0] 24)
            have b := Bx.new w1 24 #[.slice none 0 0, .int .i64 0, .int .i64 0, .int .i64 0, .bool false, .int .i64 0]
            have hp9 := Q1.out.size
            obtain ⟨w2, hw⟩ : ∃ z, z = w1.alloc (.cells #[.slice none 0 0, .int .i64 0, .int .i64 0, .int .i64 0, .bool false, .int .i64 0] 24) := ⟨_, rfl⟩
            rw [← hw] at q b
            rw [← hw]
            clear hw
            obtain ⟨p9, hp⟩ : ∃ z, z = w1.heap.size := ⟨_, rfl⟩
            rw [← hp] at b hp9 ⊢
            clear hp
            have b7 := Lib.hid b
            have Q2 := Lib.hid (Q1.out.trans q)
            clear q b
            clear hHeld
            refine hK.out _ _ (KS.out _ Q2.out) (fun hHeld => ?_)
            clear hK K
            refine pg ?_
            refine aR [2] ?_
            refine AllReadyH.cons (o := _) rfl (fun K hK => ?_) AllReadyH.nil
            · skip
              go_simp
              go_at_call 23
              refine (PC1.out _ Q2.out).mono ?_
              rintro e w3 ⟨A9, c9, rfl, hz9, q⟩
              have Q3 := Lib.hid (Q2.out.trans q)
              have Z9 := Lib.hid hz9
              have b7 := Lib.hid (b7.out.on q)
              clear q hz9
              clear hHeld
              refine hK.out _ _ (KS.out _ Q3.out) (fun hHeld => ?_)
              clear hK K
              refine pg ?_
              refine tkV 3 ?_
              refine tkV 4 ?_
              refine tkV 5 ?_
              have q9 := q_make (A := A9) (n := nC) (c := c9) (d := dC) Q3.out hp9
              have b9 := DB.make (d := dC) b7.out HnC.out Z9.out
              have f0 := b7.out.cell 0
              have f1 := b7.out.cell 1
              have f2 := b7.out.cell 2
              have f3 := b7.out.cell 3
              have f4 := b7.out.cell 4
              have f5 := b7.out.cell 5
              have g0 := b7.out.frozen 0
              have g1 := b7.out.frozen 1
              have g2 := b7.out.frozen 2
              have g3 := b7.out.frozen 3
              have g4 := b7.out.frozen 4
              have g5 := b7.out.frozen 5
              obtain ⟨we, hwe⟩ : ∃ z, z = ((((((w3.setCell ⟨p9, 0, none⟩ (.slice A9 nC c9)).setCell ⟨p9, 1, none⟩ (.int .i64 dC.size)).setCell ⟨p9, 2, none⟩ (.int .i64 dC.mo)).setCell ⟨p9, 3, none⟩ (.int .i64 dC.fuel)).setCell ⟨p9, 4, none⟩ (.bool dC.off)).setCell ⟨p9, 5, none⟩ (.int .i64 dC.bad)) := ⟨_, rfl⟩
              rw [← hwe] at q9 b9
              refine aR [7] ?_
              refine AllReadyH.cons (o := _) rfl (fun K hK => ?_) AllReadyH.nil
              go_simp
              rw [← hwe]
              clear hwe f0 f1 f2 f3 f4 f5 g0 g1 g2 g3 g4 g5
              clear hHeld
              refine hK.out _ _ (KS.out _ q9) (fun hHeld => ?_)
              clear hK K
              refine pg ?_
              refine tkV 8 ?_
              refine wpAnyH_done (by kernel_rfl) ?_ _
              go_wp2_with fail
              go_meet
              exact ⟨p9, rfl, rfl, hp9, b9, q9⟩
        · skip
          go_simp
          have q := (Q.refl wd).alloc (.cells #[.slice none 0 0, .int .i64 0, .int .i64 0, .int .i64 0, .bool false, .int .i64 0] 24)
          have b := Bx.new wd 24 #[.slice none 0 0, .int .i64 0, .int .i64 0, .int .i64 0, .bool false, .int .i64 0]
          have hp9 := Qd.out.size
          obtain ⟨w1, hw⟩ : ∃ z, z = wd.alloc (.cells #[.slice none 0 0, .int .i64 0, .int .i64 0, .int .i64 0, .bool false, .int .i64 0] 24) := ⟨_, rfl⟩
          rw [← hw] at q b
          rw [← hw]
          clear hw
          obtain ⟨p9, hp⟩ : ∃ z, z = wd.heap.size := ⟨_, rfl⟩
          rw [← hp] at b hp9 ⊢
          clear hp
          have b7 := Lib.hid b
          have Q1 := Lib.hid (Qd.out.trans q)
          clear q b
          clear hHeld
          refine hK.out _ _ (KS.out _ Q1.out) (fun hHeld => ?_)
          clear hK K
          refine pg ?_
          refine aR [1] ?_
          refine AllReadyH.cons (o := _) rfl (fun K hK => ?_) AllReadyH.nil
          · skip
            go_simp
            go_at_call 24
            refine (A3.out _).mono ?_
            rintro e w2 ⟨rfl, q⟩
            have Q2 := Lib.hid (Q1.out.trans q)
            have b7 := Lib.hid (b7.out.on q)
            clear q
            clear hHeld
            refine hK.out _ _ (KS.out _ Q2.out) (fun hHeld => ?_)
            clear hK K
            refine pg ?_
            refine aR [2] ?_
            refine AllReadyH.cons (o := _) rfl (fun K hK => ?_) AllReadyH.nil
            · skip
              go_simp
              go_at_call 23
              refine (PC1.out _ Q2.out).mono ?_
              rintro e w3 ⟨A9, c9, rfl, hz9, q⟩
              have Q3 := Lib.hid (Q2.out.trans q)
              have Z9 := Lib.hid hz9
              have b7 := Lib.hid (b7.out.on q)
              clear q hz9
              clear hHeld
              refine hK.out _ _ (KS.out _ Q3.out) (fun hHeld => ?_)
              clear hK K
              refine pg ?_
              refine tkV 3 ?_
              refine tkV 4 ?_
              refine tkV 5 ?_
              have q9 := q_make (A := A9) (n := nC) (c := c9) (d := dC) Q3.out hp9
              have b9 := DB.make (d := dC) b7.out HnC.out Z9.out
              have f0 := b7.out.cell 0
              have f1 := b7.out.cell 1
              have f2 := b7.out.cell 2
              have f3 := b7.out.cell 3
              have f4 := b7.out.cell 4
              have f5 := b7.out.cell 5
              have g0 := b7.out.frozen 0
              have g1 := b7.out.frozen 1
              have g2 := b7.out.frozen 2
              have g3 := b7.out.frozen 3
              have g4 := b7.out.frozen 4
              have g5 := b7.out.frozen 5
              obtain ⟨we, hwe⟩ : ∃ z, z = ((((((w3.setCell ⟨p9, 0, none⟩ (.slice A9 nC c9)).setCell ⟨p9, 1, none⟩ (.int .i64 dC.size)).setCell ⟨p9, 2, none⟩ (.int .i64 dC.mo)).setCell ⟨p9, 3, none⟩ (.int .i64 dC.fuel)).setCell ⟨p9, 4, none⟩ (.bool dC.off)).setCell ⟨p9, 5, none⟩ (.int .i64 dC.bad)) := ⟨_, rfl⟩
              rw [← hwe] at q9 b9
              refine aR [7] ?_
              refine AllReadyH.cons (o := _) rfl (fun K hK => ?_) AllReadyH.nil
              go_simp
              rw [← hwe]
              clear hwe f0 f1 f2 f3 f4 f5 g0 g1 g2 g3 g4 g5
              clear hHeld
              refine hK.out _ _ (KS.out _ q9) (fun hHeld => ?_)
              clear hK K
              refine pg ?_
              refine tkV 8 ?_
              refine wpAnyH_done (by kernel_rfl) ?_ _
              go_wp2_with fail
              go_meet
              exact ⟨p9, rfl, rfl, hp9, b9, q9⟩
      case rest =>
        obtain ⟨pC, rfl, rfl, -, b1, q1⟩ := hcut
        obtain ⟨wb3, hwb⟩ : ∃ z, z = wc := ⟨_, rfl⟩
        subst hwb
        have Q4 := Lib.hid (Q3.out.trans q1)
        have Bd0 := Lib.hid (Bd0.out.on q1)
        have Zd0 := Lib.hid (Zd0.out.on q1)
        have BdA := Lib.hid (BdA.out.on q1)
        have ZdA := Lib.hid (ZdA.out.on q1)
        have BdB := Lib.hid (BdB.out.on q1)
        have ZdB := Lib.hid (ZdB.out.on q1)
        have DC0 := Lib.hid b1
        clear b1 q1 Q3 DB0
        obtain ⟨AC, cC, -, b0, z0⟩ := DC0.out
        have BdC := Lib.hid b0
        have ZdC := Lib.hid z0
        clear b0 z0
        have PK1 := Lib.hid (fun (x : World) (q : Q wb3 x) => PK.out x _ (ZdA.out.on q))
        unfold dvV at PK1
        obtain ⟨x0, x1, x2, x3, x4, x5⟩ : wb3.cell? ⟨pA, 0, none⟩ = some (.slice AA nA cA) ∧ wb3.cell? ⟨pA, 1, none⟩ = some (.int .i64 dA.size) ∧ wb3.cell? ⟨pA, 2, none⟩ = some (.int .i64 dA.mo) ∧ wb3.cell? ⟨pA, 3, none⟩ = some (.int .i64 dA.fuel) ∧ wb3.cell? ⟨pA, 4, none⟩ = some (.bool dA.off) ∧ wb3.cell? ⟨pA, 5, none⟩ = some (.int .i64 dA.bad) := ⟨BdA.out.cell 0, BdA.out.cell 1, BdA.out.cell 2, BdA.out.cell 3, BdA.out.cell 4, BdA.out.cell 5⟩
        go_wp2_with fail
        refine (PK1.out _ (Q.refl _)).mono ?_
        rintro e w5 ⟨AK, cK, rfl, hz, q1⟩
        have b1 := Bx.new w5 24 #[.slice AK nK cK, .int .i64 dK.size, .int .i64 dK.mo, .int .i64 dK.fuel, .bool dK.off, .int .i64 dK.bad]
        have z1 := hz.on ((Q.refl w5).alloc (.cells #[.slice AK nK cK, .int .i64 dK.size, .int .i64 dK.mo, .int .i64 dK.fuel, .bool dK.off, .int .i64 dK.bad] 24))
        have q2 := q1.alloc (.cells #[.slice AK nK cK, .int .i64 dK.size, .int .i64 dK.mo, .int .i64 dK.fuel, .bool dK.off, .int .i64 dK.bad] 24)
        obtain ⟨wk, hwk⟩ : ∃ z, z = w5.alloc (.cells #[.slice AK nK cK, .int .i64 dK.size, .int .i64 dK.mo, .int .i64 dK.fuel, .bool dK.off, .int .i64 dK.bad] 24) := ⟨_, rfl⟩
        obtain ⟨pK, hpK⟩ : ∃ z, z = w5.heap.size := ⟨_, rfl⟩
        rw [← hwk, ← hpK] at b1
        rw [← hwk] at q2 z1
        go_upto_region 6 with fail
        rw [← hwk, ← hpK]
        clear hwk hpK hz q1 x0 x1 x2 x3 x4 x5
        have Q5 := Lib.hid (Q4.out.trans q2)
        have Bd0 := Lib.hid (Bd0.out.on q2)
        have Zd0 := Lib.hid (Zd0.out.on q2)
        have BdA := Lib.hid (BdA.out.on q2)
        have ZdA := Lib.hid (ZdA.out.on q2)
        have BdB := Lib.hid (BdB.out.on q2)
        have ZdB := Lib.hid (ZdB.out.on q2)
        have BdC := Lib.hid (BdC.out.on q2)
        have BdK := Lib.hid b1
        have ZdK := Lib.hid z1
        clear b1 z1 q2 Q4
        have x0 : wk.cell? ⟨pB, 0, none⟩ = some (.slice AB 2 cB) := by have := BdB.out.cell 0; rw [hB2.out] at this; exact this
        go_upto_region 8 with fail
        clear x0
        have CL1 := Lib.hid (fun (x : World) (q : Q wk x) => CL.out x _ (ZdA.out.on q))
        have CM1 := Lib.hid (fun (x : World) (q : Q wk x) => CM.out x _ (ZdK.out.on q))
        unfold dvV at CL1 CM1
        go_cut [11, 12] from 60 to 65 (fun VP VE wx => ∃ p q, VP = .pointer (some ⟨p, 0, none⟩) ∧ VE = .pointer (some ⟨q, 0, none⟩) ∧ DB wx p nL dL ∧ DB wx q nM dM ∧ Q wk wx)
        case first =>
          have KS : Hid (∀ x, Q wk x → (fun (W : World) => W.cell? ⟨pA, 0, none⟩ = some (.slice AA nA cA) ∧ W.cell? ⟨pA, 1, none⟩ = some (.int .i64 dA.size) ∧ W.cell? ⟨pA, 2, none⟩ = some (.int .i64 dA.mo) ∧ W.cell? ⟨pA, 3, none⟩ = some (.int .i64 dA.fuel) ∧ W.cell? ⟨pA, 4, none⟩ = some (.bool dA.off) ∧ W.cell? ⟨pA, 5, none⟩ = some (.int .i64 dA.bad) ∧ W.cell? ⟨pK, 0, none⟩ = some (.slice AK nK cK) ∧ W.cell? ⟨pK, 1, none⟩ = some (.int .i64 dK.size) ∧ W.cell? ⟨pK, 2, none⟩ = some (.int .i64 dK.mo) ∧ W.cell? ⟨pK, 3, none⟩ = some (.int .i64 dK.fuel) ∧ W.cell? ⟨pK, 4, none⟩ = some (.bool dK.off) ∧ W.cell? ⟨pK, 5, none⟩ = some (.int .i64 dK.bad)) x) := Lib.hid (fun x q => ⟨(BdA.out.on q).cell 0, (BdA.out.on q).cell 1, (BdA.out.on q).cell 2, (BdA.out.on q).cell 3, (BdA.out.on q).cell 4, (BdA.out.on q).cell 5, (BdK.out.on q).cell 0, (BdK.out.on q).cell 1, (BdK.out.on q).cell 2, (BdK.out.on q).cell 3, (BdK.out.on q).cell 4, (BdK.out.on q).cell 5⟩)
          have q1 := (Q.refl wk).drew
          obtain ⟨wd, hwd⟩ : ∃ z, z = wk.drew := ⟨_, rfl⟩
          refine wp_region_held_drew (S := (fun (W : World) => W.cell? ⟨pA, 0, none⟩ = some (.slice AA nA cA) ∧ W.cell? ⟨pA, 1, none⟩ = some (.int .i64 dA.size) ∧ W.cell? ⟨pA, 2, none⟩ = some (.int .i64 dA.mo) ∧ W.cell? ⟨pA, 3, none⟩ = some (.int .i64 dA.fuel) ∧ W.cell? ⟨pA, 4, none⟩ = some (.bool dA.off) ∧ W.cell? ⟨pA, 5, none⟩ = some (.int .i64 dA.bad) ∧ W.cell? ⟨pK, 0, none⟩ = some (.slice AK nK cK) ∧ W.cell? ⟨pK, 1, none⟩ = some (.int .i64 dK.size) ∧ W.cell? ⟨pK, 2, none⟩ = some (.int .i64 dK.mo) ∧ W.cell? ⟨pK, 3, none⟩ = some (.int .i64 dK.fuel) ∧ W.cell? ⟨pK, 4, none⟩ = some (.bool dK.off) ∧ W.cell? ⟨pK, 5, none⟩ = some (.int .i64 dK.bad))) (by kernel_rfl) (KS.out _ q1) (fun hHeld => ?_)
          rw [← hwd] at q1 hHeld ⊢
          clear hwd
          have Qd := Lib.hid q1
          have hpp := Lib.hid q1.size
          clear q1
          refine tkV 0 ?_
          refine tkV 1 ?_
          refine tkV 3 ?_
          refine tkV 4 ?_
          refine aR [2, 6, 7] ?_
          refine AllReadyH.cons (o := _) rfl (fun K hK => ?_) (AllReadyH.cons (o := _) rfl (fun K hK => ?_) (AllReadyH.cons (o := _) rfl (fun K hK => ?_) AllReadyH.nil))
          · skip
            go_simp
            go_at_call 13
            refine (CL1.out _ Qd.out).mono ?_
            rintro e w1 ⟨A6, c6, rfl, hz9, q⟩
            have Z6 := Lib.hid hz9
            clear hz9
            have Q1 := Lib.hid (Qd.out.trans q)
            clear q hHeld
            refine hK.out _ _ (KS.out _ Q1.out) (fun hHeld => ?_)
            clear hK K
            refine pg ?_
            refine aR [5, 6, 7] ?_
            refine AllReadyH.cons (o := _) rfl (fun K hK => ?_) (AllReadyH.cons (o := _) rfl (fun K hK => ?_) (AllReadyH.cons (o := _) rfl (fun K hK => ?_) AllReadyH.nil))
            · skip
              go_simp
              go_at_call 13
              refine (CM1.out _ Q1.out).mono ?_
              rintro e w2 ⟨A7, c7, rfl, hz9, q⟩
              have Z7 := Lib.hid hz9
              clear hz9
              have Z6 := Lib.hid (Z6.out.on q)
              have Q2 := Lib.hid (Q1.out.trans q)
              clear q hHeld
              refine hK.out _ _ (KS.out _ Q2.out) (fun hHeld => ?_)
              clear hK K
              refine pg ?_
              refine aR [6, 7] ?_
              refine AllReadyH.cons (o := _) rfl (fun K hK => ?_) (AllReadyH.cons (o := _) rfl (fun K hK => ?_) AllReadyH.nil)
              · skip
                go_simp
                have q := (Q.refl w2).alloc (.cells #[.slice none 0 0, .int .i64 0, .int .i64 0, .int .i64 0, .bool false, .int .i64 0] 24)
                have b := Bx.new w2 24 #[.slice none 0 0, .int .i64 0, .int .i64 0, .int .i64 0, .bool false, .int .i64 0]
                have hp9 := Q2.out.size
                obtain ⟨w3, hw⟩ : ∃ z, z = w2.alloc (.cells #[.slice none 0 0, .int .i64 0, .int .i64 0, .int .i64 0, .bool false, .int .i64 0] 24) := ⟨_, rfl⟩
                rw [← hw] at q b
                rw [← hw]
                clear hw
                obtain ⟨p6, hp⟩ : ∃ z, z = w2.heap.size := ⟨_, rfl⟩
                rw [← hp] at b hp9 ⊢
                clear hp 
                have b6 := Lib.hid b
                have h6 := Lib.hid hp9
                clear b hp9
                have Z6 := Lib.hid (Z6.out.on q)
                have Z7 := Lib.hid (Z7.out.on q)
                have Q3 := Lib.hid (Q2.out.trans q)
                clear q hHeld
                refine hK.out _ _ (KS.out _ Q3.out) (fun hHeld => ?_)
                clear hK K
                refine pg ?_
                refine aR [7] ?_
                refine AllReadyH.cons (o := _) rfl (fun K hK => ?_) AllReadyH.nil
                · skip
                  go_simp
                  have q := (Q.refl w3).alloc (.cells #[.slice none 0 0, .int .i64 0, .int .i64 0, .int .i64 0, .bool false, .int .i64 0] 24)
                  have b := Bx.new w3 24 #[.slice none 0 0, .int .i64 0, .int .i64 0, .int .i64 0, .bool false, .int .i64 0]
                  have hp9 := Q3.out.size
                  have hlt := b6.out.lt
                  have hne : Hid (p6 ≠ w3.heap.size) := Lib.hid (by omega)
                  obtain ⟨w4, hw⟩ : ∃ z, z = w3.alloc (.cells #[.slice none 0 0, .int .i64 0, .int .i64 0, .int .i64 0, .bool false, .int .i64 0] 24) := ⟨_, rfl⟩
                  rw [← hw] at q b
                  rw [← hw]
                  clear hw
                  obtain ⟨p7, hp⟩ : ∃ z, z = w3.heap.size := ⟨_, rfl⟩
                  rw [← hp] at b hp9 hne ⊢
                  clear hp hlt
                  have b7 := Lib.hid b
                  have h7 := Lib.hid hp9
                  clear b hp9
                  have b6 := Lib.hid (b6.out.on q)
                  have Z6 := Lib.hid (Z6.out.on q)
                  have Z7 := Lib.hid (Z7.out.on q)
                  have Q4 := Lib.hid (Q3.out.trans q)
                  clear q hHeld
                  refine hK.out _ _ (KS.out _ Q4.out) (fun hHeld => ?_)
                  clear hK K
                  refine pg ?_
                  have q8 := q_make (A := A6) (n := nL) (c := c6) (d := dL) Q4.out h6.out
                  have d8 := DB.make (d := dL) b6.out HnL.out Z6.out
                  have b8 := b_make (A := A6) (n := nL) (c := c6) (d := dL) b7.out (Ne.symm hne.out)
                  have z8 := z_make (A := A6) (n := nL) (c := c6) (d := dL) b6.out Z7.out
                  have f0 := b6.out.cell 0
                  have f1 := b6.out.cell 1
                  have f2 := b6.out.cell 2
                  have f3 := b6.out.cell 3
                  have f4 := b6.out.cell 4
                  have f5 := b6.out.cell 5
                  have g0 := b6.out.frozen 0
                  have g1 := b6.out.frozen 1
                  have g2 := b6.out.frozen 2
                  have g3 := b6.out.frozen 3
                  have g4 := b6.out.frozen 4
                  have g5 := b6.out.frozen 5
                  obtain ⟨we, hwe⟩ : ∃ z, z = ((((((w4.setCell ⟨p6, 0, none⟩ (.slice A6 nL c6)).setCell ⟨p6, 1, none⟩ (.int .i64 dL.size)).setCell ⟨p6, 2, none⟩ (.int .i64 dL.mo)).setCell ⟨p6, 3, none⟩ (.int .i64 dL.fuel)).setCell ⟨p6, 4, none⟩ (.bool dL.off)).setCell ⟨p6, 5, none⟩ (.int .i64 dL.bad)) := ⟨_, rfl⟩
                  rw [← hwe] at q8 d8 b8 z8
                  have Q8 := Lib.hid q8
                  have D8 := Lib.hid d8
                  have B8 := Lib.hid b8
                  have Z8 := Lib.hid z8
                  clear q8 d8 b8 z8
                  refine aR [8] ?_
                  refine AllReadyH.cons (o := _) rfl (fun K hK => ?_) AllReadyH.nil
                  go_simp
                  rw [← hwe]
                  clear hwe f0 f1 f2 f3 f4 f5 g0 g1 g2 g3 g4 g5 hHeld
                  refine hK.out _ _ (KS.out _ Q8.out) (fun hHeld => ?_)
                  clear hK K
                  refine pg ?_
                  have q9 := q_make (A := A7) (n := nM) (c := c7) (d := dM) Q8.out h7.out
                  have d9 := DB.make (d := dM) B8.out HnM.out Z8.out
                  have d10 := DB.make2 (A := A7) (n := nM) (c := c7) (d := dM) B8.out D8.out hne.out
                  have f0 := B8.out.cell 0
                  have f1 := B8.out.cell 1
                  have f2 := B8.out.cell 2
                  have f3 := B8.out.cell 3
                  have f4 := B8.out.cell 4
                  have f5 := B8.out.cell 5
                  have g0 := B8.out.frozen 0
                  have g1 := B8.out.frozen 1
                  have g2 := B8.out.frozen 2
                  have g3 := B8.out.frozen 3
                  have g4 := B8.out.frozen 4
                  have g5 := B8.out.frozen 5
                  obtain ⟨wf, hwe⟩ : ∃ z, z = ((((((we.setCell ⟨p7, 0, none⟩ (.slice A7 nM c7)).setCell ⟨p7, 1, none⟩ (.int .i64 dM.size)).setCell ⟨p7, 2, none⟩ (.int .i64 dM.mo)).setCell ⟨p7, 3, none⟩ (.int .i64 dM.fuel)).setCell ⟨p7, 4, none⟩ (.bool dM.off)).setCell ⟨p7, 5, none⟩ (.int .i64 dM.bad)) := ⟨_, rfl⟩
                  rw [← hwe] at q9 d9 d10
                  have Q9 := Lib.hid q9
                  have D9 := Lib.hid d9
                  have D10 := Lib.hid d10
                  clear q9 d9 d10
                  refine aR [9] ?_
                  refine AllReadyH.cons (o := _) rfl (fun K hK => ?_) AllReadyH.nil
                  go_simp
                  rw [← hwe]
                  clear hwe f0 f1 f2 f3 f4 f5 g0 g1 g2 g3 g4 g5 hHeld
                  refine hK.out _ _ (KS.out _ Q9.out) (fun hHeld => ?_)
                  clear hK K
                  refine pg ?_
                  refine wpAnyH_done (by kernel_rfl) ?_ _
                  go_wp2_with fail
                  go_meet
                  exact ⟨p6, p7, rfl, rfl, D10.out, D9.out, Q9.out⟩
              · skip
                go_simp
                have q := (Q.refl w2).alloc (.cells #[.slice none 0 0, .int .i64 0, .int .i64 0, .int .i64 0, .bool false, .int .i64 0] 24)
                have b := Bx.new w2 24 #[.slice none 0 0, .int .i64 0, .int .i64 0, .int .i64 0, .bool false, .int .i64 0]
                have hp9 := Q2.out.size
                obtain ⟨w3, hw⟩ : ∃ z, z = w2.alloc (.cells #[.slice none 0 0, .int .i64 0, .int .i64 0, .int .i64 0, .bool false, .int .i64 0] 24) := ⟨_, rfl⟩
                rw [← hw] at q b
                rw [← hw]
                clear hw
                obtain ⟨p7, hp⟩ : ∃ z, z = w2.heap.size := ⟨_, rfl⟩
                rw [← hp] at b hp9 ⊢
                clear hp 
                have b7 := Lib.hid b
                have h7 := Lib.hid hp9
                clear b hp9
                have Z6 := Lib.hid (Z6.out.on q)
                have Z7 := Lib.hid (Z7.out.on q)
                have Q3 := Lib.hid (Q2.out.trans q)
                clear q hHeld
                refine hK.out _ _ (KS.out _ Q3.out) (fun hHeld => ?_)
                clear hK K
                refine pg ?_
                refine aR [6] ?_
                refine AllReadyH.cons (o := _) rfl (fun K hK => ?_) AllReadyH.nil
                · skip
                  go_simp
                  have q := (Q.refl w3).alloc (.cells #[.slice none 0 0, .int .i64 0, .int .i64 0, .int .i64 0, .bool false, .int .i64 0] 24)
                  have b := Bx.new w3 24 #[.slice none 0 0, .int .i64 0, .int .i64 0, .int .i64 0, .bool false, .int .i64 0]
                  have hp9 := Q3.out.size
                  have hlt := b7.out.lt
                  have hne : Hid (w3.heap.size ≠ p7) := Lib.hid (by omega)
                  obtain ⟨w4, hw⟩ : ∃ z, z = w3.alloc (.cells #[.slice none 0 0, .int .i64 0, .int .i64 0, .int .i64 0, .bool false, .int .i64 0] 24) := ⟨_, rfl⟩
                  rw [← hw] at q b
                  rw [← hw]
                  clear hw
                  obtain ⟨p6, hp⟩ : ∃ z, z = w3.heap.size := ⟨_, rfl⟩
                  rw [← hp] at b hp9 hne ⊢
                  clear hp hlt
                  have b6 := Lib.hid b
                  have h6 := Lib.hid hp9
                  clear b hp9
                  have b7 := Lib.hid (b7.out.on q)
                  have Z6 := Lib.hid (Z6.out.on q)
                  have Z7 := Lib.hid (Z7.out.on q)
                  have Q4 := Lib.hid (Q3.out.trans q)
                  clear q hHeld
                  refine hK.out _ _ (KS.out _ Q4.out) (fun hHeld => ?_)
                  clear hK K
                  refine pg ?_
                  have q8 := q_make (A := A6) (n := nL) (c := c6) (d := dL) Q4.out h6.out
                  have d8 := DB.make (d := dL) b6.out HnL.out Z6.out
                  have b8 := b_make (A := A6) (n := nL) (c := c6) (d := dL) b7.out (Ne.symm hne.out)
                  have z8 := z_make (A := A6) (n := nL) (c := c6) (d := dL) b6.out Z7.out
                  have f0 := b6.out.cell 0
                  have f1 := b6.out.cell 1
                  have f2 := b6.out.cell 2
                  have f3 := b6.out.cell 3
                  have f4 := b6.out.cell 4
                  have f5 := b6.out.cell 5
                  have g0 := b6.out.frozen 0
                  have g1 := b6.out.frozen 1
                  have g2 := b6.out.frozen 2
                  have g3 := b6.out.frozen 3
                  have g4 := b6.out.frozen 4
                  have g5 := b6.out.frozen 5
                  obtain ⟨we, hwe⟩ : ∃ z, z = ((((((w4.setCell ⟨p6, 0, none⟩ (.slice A6 nL c6)).setCell ⟨p6, 1, none⟩ (.int .i64 dL.size)).setCell ⟨p6, 2, none⟩ (.int .i64 dL.mo)).setCell ⟨p6, 3, none⟩ (.int .i64 dL.fuel)).setCell ⟨p6, 4, none⟩ (.bool dL.off)).setCell ⟨p6, 5, none⟩ (.int .i64 dL.bad)) := ⟨_, rfl⟩
                  rw [← hwe] at q8 d8 b8 z8
                  have Q8 := Lib.hid q8
                  have D8 := Lib.hid d8
                  have B8 := Lib.hid b8
                  have Z8 := Lib.hid z8
                  clear q8 d8 b8 z8
                  refine aR [8] ?_
                  refine AllReadyH.cons (o := _) rfl (fun K hK => ?_) AllReadyH.nil
                  go_simp
                  rw [← hwe]
                  clear hwe f0 f1 f2 f3 f4 f5 g0 g1 g2 g3 g4 g5 hHeld
                  refine hK.out _ _ (KS.out _ Q8.out) (fun hHeld => ?_)
                  clear hK K
                  refine pg ?_
                  have q9 := q_make (A := A7) (n := nM) (c := c7) (d := dM) Q8.out h7.out
                  have d9 := DB.make (d := dM) B8.out HnM.out Z8.out
                  have d10 := DB.make2 (A := A7) (n := nM) (c := c7) (d := dM) B8.out D8.out hne.out
                  have f0 := B8.out.cell 0
                  have f1 := B8.out.cell 1
                  have f2 := B8.out.cell 2
                  have f3 := B8.out.cell 3
                  have f4 := B8.out.cell 4
                  have f5 := B8.out.cell 5
                  have g0 := B8.out.frozen 0
                  have g1 := B8.out.frozen 1
                  have g2 := B8.out.frozen 2
                  have g3 := B8.out.frozen 3
                  have g4 := B8.out.frozen 4
                  have g5 := B8.out.frozen 5
                  obtain ⟨wf, hwe⟩ : ∃ z, z = ((((((we.setCell ⟨p7, 0, none⟩ (.slice A7 nM c7)).setCell ⟨p7, 1, none⟩ (.int .i64 dM.size)).setCell ⟨p7, 2, none⟩ (.int .i64 dM.mo)).setCell ⟨p7, 3, none⟩ (.int .i64 dM.fuel)).setCell ⟨p7, 4, none⟩ (.bool dM.off)).setCell ⟨p7, 5, none⟩ (.int .i64 dM.bad)) := ⟨_, rfl⟩
                  rw [← hwe] at q9 d9 d10
                  have Q9 := Lib.hid q9
                  have D9 := Lib.hid d9
                  have D10 := Lib.hid d10
                  clear q9 d9 d10
                  refine aR [9] ?_
                  refine AllReadyH.cons (o := _) rfl (fun K hK => ?_) AllReadyH.nil
                  go_simp
                  rw [← hwe]
                  clear hwe f0 f1 f2 f3 f4 f5 g0 g1 g2 g3 g4 g5 hHeld
                  refine hK.out _ _ (KS.out _ Q9.out) (fun hHeld => ?_)
                  clear hK K
                  refine pg ?_
                  refine wpAnyH_done (by kernel_rfl) ?_ _
                  go_wp2_with fail
                  go_meet
                  exact ⟨p6, p7, rfl, rfl, D10.out, D9.out, Q9.out⟩
            · skip
              go_simp
              have q := (Q.refl w1).alloc (.cells #[.slice none 0 0, .int .i64 0, .int .i64 0, .int .i64 0, .bool false, .int .i64 0] 24)
              have b := Bx.new w1 24 #[.slice none 0 0, .int .i64 0, .int .i64 0, .int .i64 0, .bool false, .int .i64 0]
              have hp9 := Q1.out.size
              obtain ⟨w2, hw⟩ : ∃ z, z = w1.alloc (.cells #[.slice none 0 0, .int .i64 0, .int .i64 0, .int .i64 0, .bool false, .int .i64 0] 24) := ⟨_, rfl⟩
              rw [← hw] at q b
              rw [← hw]
              clear hw
              obtain ⟨p6, hp⟩ : ∃ z, z = w1.heap.size := ⟨_, rfl⟩
              rw [← hp] at b hp9 ⊢
              clear hp 
              have b6 := Lib.hid b
              have h6 := Lib.hid hp9
              clear b hp9
              have Z6 := Lib.hid (Z6.out.on q)
              have Q2 := Lib.hid (Q1.out.trans q)
              clear q hHeld
              refine hK.out _ _ (KS.out _ Q2.out) (fun hHeld => ?_)
              clear hK K
              refine pg ?_
              refine aR [5, 7] ?_
              refine AllReadyH.cons (o := _) rfl (fun K hK => ?_) (AllReadyH.cons (o := _) rfl (fun K hK => ?_) AllReadyH.nil)
              · skip
                go_simp
                go_at_call 13
                refine (CM1.out _ Q2.out).mono ?_
                rintro e w3 ⟨A7, c7, rfl, hz9, q⟩
                have Z7 := Lib.hid hz9
                clear hz9
                have b6 := Lib.hid (b6.out.on q)
                have Z6 := Lib.hid (Z6.out.on q)
                have Q3 := Lib.hid (Q2.out.trans q)
                clear q hHeld
                refine hK.out _ _ (KS.out _ Q3.out) (fun hHeld => ?_)
                clear hK K
                refine pg ?_
                refine aR [7] ?_
                refine AllReadyH.cons (o := _) rfl (fun K hK => ?_) AllReadyH.nil
                · skip
                  go_simp
                  have q := (Q.refl w3).alloc (.cells #[.slice none 0 0, .int .i64 0, .int .i64 0, .int .i64 0, .bool false, .int .i64 0] 24)
                  have b := Bx.new w3 24 #[.slice none 0 0, .int .i64 0, .int .i64 0, .int .i64 0, .bool false, .int .i64 0]
                  have hp9 := Q3.out.size
                  have hlt := b6.out.lt
                  have hne : Hid (p6 ≠ w3.heap.size) := Lib.hid (by omega)
                  obtain ⟨w4, hw⟩ : ∃ z, z = w3.alloc (.cells #[.slice none 0 0, .int .i64 0, .int .i64 0, .int .i64 0, .bool false, .int .i64 0] 24) := ⟨_, rfl⟩
                  rw [← hw] at q b
                  rw [← hw]
                  clear hw
                  obtain ⟨p7, hp⟩ : ∃ z, z = w3.heap.size := ⟨_, rfl⟩
                  rw [← hp] at b hp9 hne ⊢
                  clear hp hlt
                  have b7 := Lib.hid b
                  have h7 := Lib.hid hp9
                  clear b hp9
                  have b6 := Lib.hid (b6.out.on q)
                  have Z6 := Lib.hid (Z6.out.on q)
                  have Z7 := Lib.hid (Z7.out.on q)
                  have Q4 := Lib.hid (Q3.out.trans q)
                  clear q hHeld
                  refine hK.out _ _ (KS.out _ Q4.out) (fun hHeld => ?_)
                  clear hK K
                  refine pg ?_
                  have q8 := q_make (A := A6) (n := nL) (c := c6) (d := dL) Q4.out h6.out
                  have d8 := DB.make (d := dL) b6.out HnL.out Z6.out
                  have b8 := b_make (A := A6) (n := nL) (c := c6) (d := dL) b7.out (Ne.symm hne.out)
                  have z8 := z_make (A := A6) (n := nL) (c := c6) (d := dL) b6.out Z7.out
                  have f0 := b6.out.cell 0
                  have f1 := b6.out.cell 1
                  have f2 := b6.out.cell 2
                  have f3 := b6.out.cell 3
                  have f4 := b6.out.cell 4
                  have f5 := b6.out.cell 5
                  have g0 := b6.out.frozen 0
                  have g1 := b6.out.frozen 1
                  have g2 := b6.out.frozen 2
                  have g3 := b6.out.frozen 3
                  have g4 := b6.out.frozen 4
                  have g5 := b6.out.frozen 5
                  obtain ⟨we, hwe⟩ : ∃ z, z = ((((((w4.setCell ⟨p6, 0, none⟩ (.slice A6 nL c6)).setCell ⟨p6, 1, none⟩ (.int .i64 dL.size)).setCell ⟨p6, 2, none⟩ (.int .i64 dL.mo)).setCell ⟨p6, 3, none⟩ (.int .i64 dL.fuel)).setCell ⟨p6, 4, none⟩ (.bool dL.off)).setCell ⟨p6, 5, none⟩ (.int .i64 dL.bad)) := ⟨_, rfl⟩
                  rw [← hwe] at q8 d8 b8 z8
                  have Q8 := Lib.hid q8
                  have D8 := Lib.hid d8
                  have B8 := Lib.hid b8
                  have Z8 := Lib.hid z8
                  clear q8 d8 b8 z8
                  refine aR [8] ?_
                  refine AllReadyH.cons (o := _) rfl (fun K hK => ?_) AllReadyH.nil
                  go_simp
                  rw [← hwe]
                  clear hwe f0 f1 f2 f3 f4 f5 g0 g1 g2 g3 g4 g5 hHeld
                  refine hK.out _ _ (KS.out _ Q8.out) (fun hHeld => ?_)
                  clear hK K
                  refine pg ?_
                  have q9 := q_make (A := A7) (n := nM) (c := c7) (d := dM) Q8.out h7.out
                  have d9 := DB.make (d := dM) B8.out HnM.out Z8.out
                  have d10 := DB.make2 (A := A7) (n := nM) (c := c7) (d := dM) B8.out D8.out hne.out
                  have f0 := B8.out.cell 0
                  have f1 := B8.out.cell 1
                  have f2 := B8.out.cell 2
                  have f3 := B8.out.cell 3
                  have f4 := B8.out.cell 4
                  have f5 := B8.out.cell 5
                  have g0 := B8.out.frozen 0
                  have g1 := B8.out.frozen 1
                  have g2 := B8.out.frozen 2
                  have g3 := B8.out.frozen 3
                  have g4 := B8.out.frozen 4
                  have g5 := B8.out.frozen 5
                  obtain ⟨wf, hwe⟩ : ∃ z, z = ((((((we.setCell ⟨p7, 0, none⟩ (.slice A7 nM c7)).setCell ⟨p7, 1, none⟩ (.int .i64 dM.size)).setCell ⟨p7, 2, none⟩ (.int .i64 dM.mo)).setCell ⟨p7, 3, none⟩ (.int .i64 dM.fuel)).setCell ⟨p7, 4, none⟩ (.bool dM.off)).setCell ⟨p7, 5, none⟩ (.int .i64 dM.bad)) := ⟨_, rfl⟩
                  rw [← hwe] at q9 d9 d10
                  have Q9 := Lib.hid q9
                  have D9 := Lib.hid d9
                  have D10 := Lib.hid d10
                  clear q9 d9 d10
                  refine aR [9] ?_
                  refine AllReadyH.cons (o := _) rfl (fun K hK => ?_) AllReadyH.nil
                  go_simp
                  rw [← hwe]
                  clear hwe f0 f1 f2 f3 f4 f5 g0 g1 g2 g3 g4 g5 hHeld
                  refine hK.out _ _ (KS.out _ Q9.out) (fun hHeld => ?_)
                  clear hK K
                  refine pg ?_
                  refine wpAnyH_done (by kernel_rfl) ?_ _
                  go_wp2_with fail
                  go_meet
                  exact ⟨p6, p7, rfl, rfl, D10.out, D9.out, Q9.out⟩
              · skip
                go_simp
                have q := (Q.refl w2).alloc (.cells #[.slice none 0 0, .int .i64 0, .int .i64 0, .int .i64 0, .bool false, .int .i64 0] 24)
                have b := Bx.new w2 24 #[.slice none 0 0, .int .i64 0, .int .i64 0, .int .i64 0, .bool false, .int .i64 0]
                have hp9 := Q2.out.size
                have hlt := b6.out.lt
                have hne : Hid (p6 ≠ w2.heap.size) := Lib.hid (by omega)
                obtain ⟨w3, hw⟩ : ∃ z, z = w2.alloc (.cells #[.slice none 0 0, .int .i64 0, .int .i64 0, .int .i64 0, .bool false, .int .i64 0] 24) := ⟨_, rfl⟩
                rw [← hw] at q b
                rw [← hw]
                clear hw
                obtain ⟨p7, hp⟩ : ∃ z, z = w2.heap.size := ⟨_, rfl⟩
                rw [← hp] at b hp9 hne ⊢
                clear hp hlt
                have b7 := Lib.hid b
                have h7 := Lib.hid hp9
                clear b hp9
                have b6 := Lib.hid (b6.out.on q)
                have Z6 := Lib.hid (Z6.out.on q)
                have Q3 := Lib.hid (Q2.out.trans q)
                clear q hHeld
                refine hK.out _ _ (KS.out _ Q3.out) (fun hHeld => ?_)
                clear hK K
                refine pg ?_
                refine aR [5] ?_
                refine AllReadyH.cons (o := _) rfl (fun K hK => ?_) AllReadyH.nil
                · skip
                  go_simp
                  go_at_call 13
                  refine (CM1.out _ Q3.out).mono ?_
                  rintro e w4 ⟨A7, c7, rfl, hz9, q⟩
                  have Z7 := Lib.hid hz9
                  clear hz9
                  have b6 := Lib.hid (b6.out.on q)
                  have b7 := Lib.hid (b7.out.on q)
                  have Z6 := Lib.hid (Z6.out.on q)
                  have Q4 := Lib.hid (Q3.out.trans q)
                  clear q hHeld
                  refine hK.out _ _ (KS.out _ Q4.out) (fun hHeld => ?_)
                  clear hK K
                  refine pg ?_
                  have q8 := q_make (A := A6) (n := nL) (c := c6) (d := dL) Q4.out h6.out
                  have d8 := DB.make (d := dL) b6.out HnL.out Z6.out
                  have b8 := b_make (A := A6) (n := nL) (c := c6) (d := dL) b7.out (Ne.symm hne.out)
                  have z8 := z_make (A := A6) (n := nL) (c := c6) (d := dL) b6.out Z7.out
                  have f0 := b6.out.cell 0
                  have f1 := b6.out.cell 1
                  have f2 := b6.out.cell 2
                  have f3 := b6.out.cell 3
                  have f4 := b6.out.cell 4
                  have f5 := b6.out.cell 5
                  have g0 := b6.out.frozen 0
                  have g1 := b6.out.frozen 1
                  have g2 := b6.out.frozen 2
                  have g3 := b6.out.frozen 3
                  have g4 := b6.out.frozen 4
                  have g5 := b6.out.frozen 5
                  obtain ⟨we, hwe⟩ : ∃ z, z = ((((((w4.setCell ⟨p6, 0, none⟩ (.slice A6 nL c6)).setCell ⟨p6, 1, none⟩ (.int .i64 dL.size)).setCell ⟨p6, 2, none⟩ (.int .i64 dL.mo)).setCell ⟨p6, 3, none⟩ (.int .i64 dL.fuel)).setCell ⟨p6, 4, none⟩ (.bool dL.off)).setCell ⟨p6, 5, none⟩ (.int .i64 dL.bad)) := ⟨_, rfl⟩
                  rw [← hwe] at q8 d8 b8 z8
                  have Q8 := Lib.hid q8
                  have D8 := Lib.hid d8
                  have B8 := Lib.hid b8
                  have Z8 := Lib.hid z8
                  clear q8 d8 b8 z8
                  refine aR [8] ?_
                  refine AllReadyH.cons (o := _) rfl (fun K hK => ?_) AllReadyH.nil
                  go_simp
                  rw [← hwe]
                  clear hwe f0 f1 f2 f3 f4 f5 g0 g1 g2 g3 g4 g5 hHeld
                  refine hK.out _ _ (KS.out _ Q8.out) (fun hHeld => ?_)
                  clear hK K
                  refine pg ?_
                  have q9 := q_make (A := A7) (n := nM) (c := c7) (d := dM) Q8.out h7.out
                  have d9 := DB.make (d := dM) B8.out HnM.out Z8.out
                  have d10 := DB.make2 (A := A7) (n := nM) (c := c7) (d := dM) B8.out D8.out hne.out
                  have f0 := B8.out.cell 0
                  have f1 := B8.out.cell 1
                  have f2 := B8.out.cell 2
                  have f3 := B8.out.cell 3
                  have f4 := B8.out.cell 4
                  have f5 := B8.out.cell 5
                  have g0 := B8.out.frozen 0
                  have g1 := B8.out.frozen 1
                  have g2 := B8.out.frozen 2
                  have g3 := B8.out.frozen 3
                  have g4 := B8.out.frozen 4
                  have g5 := B8.out.frozen 5
                  obtain ⟨wf, hwe⟩ : ∃ z, z = ((((((we.setCell ⟨p7, 0, none⟩ (.slice A7 nM c7)).setCell ⟨p7, 1, none⟩ (.int .i64 dM.size)).setCell ⟨p7, 2, none⟩ (.int .i64 dM.mo)).setCell ⟨p7, 3, none⟩ (.int .i64 dM.fuel)).setCell ⟨p7, 4, none⟩ (.bool dM.off)).setCell ⟨p7, 5, none⟩ (.int .i64 dM.bad)) := ⟨_, rfl⟩
                  rw [← hwe] at q9 d9 d10
                  have Q9 := Lib.hid q9
                  have D9 := Lib.hid d9
                  have D10 := Lib.hid d10
                  clear q9 d9 d10
                  refine aR [9] ?_
                  refine AllReadyH.cons (o := _) rfl (fun K hK => ?_) AllReadyH.nil
                  go_simp
                  rw [← hwe]
                  clear hwe f0 f1 f2 f3 f4 f5 g0 g1 g2 g3 g4 g5 hHeld
                  refine hK.out _ _ (KS.out _ Q9.out) (fun hHeld => ?_)
                  clear hK K
                  refine pg ?_
                  refine wpAnyH_done (by kernel_rfl) ?_ _
                  go_wp2_with fail
                  go_meet
                  exact ⟨p6, p7, rfl, rfl, D10.out, D9.out, Q9.out⟩
            · skip
              go_simp
              have q := (Q.refl w1).alloc (.cells #[.slice none 0 0, .int .i64 0, .int .i64 0, .int .i64 0, .bool false, .int .i64 0] 24)
              have b := Bx.new w1 24 #[.slice none 0 0, .int .i64 0, .int .i64 0, .int .i64 0, .bool false, .int .i64 0]
              have hp9 := Q1.out.size
              obtain ⟨w2, hw⟩ : ∃ z, z = w1.alloc (.cells #[.slice none 0 0, .int .i64 0, .int .i64 0, .int .i64 0, .bool false, .int .i64 0] 24) := ⟨_, rfl⟩
              rw [← hw] at q b
              rw [← hw]
              clear hw
              obtain ⟨p7, hp⟩ : ∃ z, z = w1.heap.size := ⟨_, rfl⟩
              rw [← hp] at b hp9 ⊢
              clear hp 
              have b7 := Lib.hid b
              have h7 := Lib.hid hp9
              clear b hp9
              have Z6 := Lib.hid (Z6.out.on q)
              have Q2 := Lib.hid (Q1.out.trans q)
              clear q hHeld
              refine hK.out _ _ (KS.out _ Q2.out) (fun hHeld => ?_)
              clear hK K
              refine pg ?_
              refine aR [5, 6] ?_
              refine AllReadyH.cons (o := _) rfl (fun K hK => ?_) (AllReadyH.cons (o := _) rfl (fun K hK => ?_) AllReadyH.nil)
              · skip
                go_simp
                go_at_call 13
                refine (CM1.out _ Q2.out).mono ?_
                rintro e w3 ⟨A7, c7, rfl, hz9, q⟩
                have Z7 := Lib.hid hz9
                clear hz9
                have b7 := Lib.hid (b7.out.on q)
                have Z6 := Lib.hid (Z6.out.on q)
                have Q3 := Lib.hid (Q2.out.trans q)
                clear q hHeld
                refine hK.out _ _ (KS.out _ Q3.out) (fun hHeld => ?_)
                clear hK K
                refine pg ?_
                refine aR [6] ?_
                refine AllReadyH.cons (o := _) rfl (fun K hK => ?_) AllReadyH.nil
                · skip
                  go_simp
                  have q := (Q.refl w3).alloc (.cells #[.slice none 0 0, .int .i64 0, .int .i64 0, .int .i64 0, .bool false, .int .i64 0] 24)
                  have b := Bx.new w3 24 #[.slice none 0 0, .int .i64 0, .int .i64 0, .int .i64 0, .bool false, .int .i64 0]
                  have hp9 := Q3.out.size
                  have hlt := b7.out.lt
                  have hne : Hid (w3.heap.size ≠ p7) := Lib.hid (by omega)
                  obtain ⟨w4, hw⟩ : ∃ z, z = w3.alloc (.cells #[.slice none 0 0, .int .i64 0, .int .i64 0, .int .i64 0, .bool false, .int .i64 0] 24) := ⟨_, rfl⟩
                  rw [← hw] at q b
                  rw [← hw]
                  clear hw
                  obtain ⟨p6, hp⟩ : ∃ z, z = w3.heap.size := ⟨_, rfl⟩
                  rw [← hp] at b hp9 hne ⊢
                  clear hp hlt
                  have b6 := Lib.hid b
                  have h6 := Lib.hid hp9
                  clear b hp9
                  have b7 := Lib.hid (b7.out.on q)
                  have Z6 := Lib.hid (Z6.out.on q)
                  have Z7 := Lib.hid (Z7.out.on q)
                  have Q4 := Lib.hid (Q3.out.trans q)
                  clear q hHeld
                  refine hK.out _ _ (KS.out _ Q4.out) (fun hHeld => ?_)
                  clear hK K
                  refine pg ?_
                  have q8 := q_make (A := A6) (n := nL) (c := c6) (d := dL) Q4.out h6.out
                  have d8 := DB.make (d := dL) b6.out HnL.out Z6.out
                  have b8 := b_make (A := A6) (n := nL) (c := c6) (d := dL) b7.out (Ne.symm hne.out)
                  have z8 := z_make (A := A6) (n := nL) (c := c6) (d := dL) b6.out Z7.out
                  have f0 := b6.out.cell 0
                  have f1 := b6.out.cell 1
                  have f2 := b6.out.cell 2
                  have f3 := b6.out.cell 3
                  have f4 := b6.out.cell 4
                  have f5 := b6.out.cell 5
                  have g0 := b6.out.frozen 0
                  have g1 := b6.out.frozen 1
                  have g2 := b6.out.frozen 2
                  have g3 := b6.out.frozen 3
                  have g4 := b6.out.frozen 4
                  have g5 := b6.out.frozen 5
                  obtain ⟨we, hwe⟩ : ∃ z, z = ((((((w4.setCell ⟨p6, 0, none⟩ (.slice A6 nL c6)).setCell ⟨p6, 1, none⟩ (.int .i64 dL.size)).setCell ⟨p6, 2, none⟩ (.int .i64 dL.mo)).setCell ⟨p6, 3, none⟩ (.int .i64 dL.fuel)).setCell ⟨p6, 4, none⟩ (.bool dL.off)).setCell ⟨p6, 5, none⟩ (.int .i64 dL.bad)) := ⟨_, rfl⟩
                  rw [← hwe] at q8 d8 b8 z8
                  have Q8 := Lib.hid q8
                  have D8 := Lib.hid d8
                  have B8 := Lib.hid b8
                  have Z8 := Lib.hid z8
                  clear q8 d8 b8 z8
                  refine aR [8] ?_
                  refine AllReadyH.cons (o := _) rfl (fun K hK => ?_) AllReadyH.nil
                  go_simp
                  rw [← hwe]
                  clear hwe f0 f1 f2 f3 f4 f5 g0 g1 g2 g3 g4 g5 hHeld
                  refine hK.out _ _ (KS.out _ Q8.out) (fun hHeld => ?_)
                  clear hK K
                  refine pg ?_
                  have q9 := q_make (A := A7) (n := nM) (c := c7) (d := dM) Q8.out h7.out
                  have d9 := DB.make (d := dM) B8.out HnM.out Z8.out
                  have d10 := DB.make2 (A := A7) (n := nM) (c := c7) (d := dM) B8.out D8.out hne.out
                  have f0 := B8.out.cell 0
                  have f1 := B8.out.cell 1
                  have f2 := B8.out.cell 2
                  have f3 := B8.out.cell 3
                  have f4 := B8.out.cell 4
                  have f5 := B8.out.cell 5
                  have g0 := B8.out.frozen 0
                  have g1 := B8.out.frozen 1
                  have g2 := B8.out.frozen 2
                  have g3 := B8.out.frozen 3
                  have g4 := B8.out.frozen 4
                  have g5 := B8.out.frozen 5
                  obtain ⟨wf, hwe⟩ : ∃ z, z = ((((((we.setCell ⟨p7, 0, none⟩ (.slice A7 nM c7)).setCell ⟨p7, 1, none⟩ (.int .i64 dM.size)).setCell ⟨p7, 2, none⟩ (.int .i64 dM.mo)).setCell ⟨p7, 3, none⟩ (.int .i64 dM.fuel)).setCell ⟨p7, 4, none⟩ (.bool dM.off)).setCell ⟨p7, 5, none⟩ (.int .i64 dM.bad)) := ⟨_, rfl⟩
                  rw [← hwe] at q9 d9 d10
                  have Q9 := Lib.hid q9
                  have D9 := Lib.hid d9
                  have D10 := Lib.hid d10
                  clear q9 d9 d10
                  refine aR [9] ?_
                  refine AllReadyH.cons (o := _) rfl (fun K hK => ?_) AllReadyH.nil
                  go_simp
                  rw [← hwe]
                  clear hwe f0 f1 f2 f3 f4 f5 g0 g1 g2 g3 g4 g5 hHeld
                  refine hK.out _ _ (KS.out _ Q9.out) (fun hHeld => ?_)
                  clear hK K
                  refine pg ?_
                  refine wpAnyH_done (by kernel_rfl) ?_ _
                  go_wp2_with fail
                  go_meet
                  exact ⟨p6, p7, rfl, rfl, D10.out, D9.out, Q9.out⟩
              · skip
                go_simp
                have q := (Q.refl w2).alloc (.cells #[.slice none 0 0, .int .i64 0, .int .i64 0, .int .i64 0, .bool false, .int .i64 0] 24)
                have b := Bx.new w2 24 #[.slice none 0 0, .int .i64 0, .int .i64 0, .int .i64 0, .bool false, .int .i64 0]
                have hp9 := Q2.out.size
                have hlt := b7.out.lt
                have hne : Hid (w2.heap.size ≠ p7) := Lib.hid (by omega)
                obtain ⟨w3, hw⟩ : ∃ z, z = w2.alloc (.cells #[.slice none 0 0, .int .i64 0, .int .i64 0, .int .i64 0, .bool false, .int .i64 0] 24) := ⟨_, rfl⟩
                rw [← hw] at q b
                rw [← hw]
                clear hw
                obtain ⟨p6, hp⟩ : ∃ z, z = w2.heap.size := ⟨_, rfl⟩
                rw [← hp] at b hp9 hne ⊢
                clear hp hlt
                have b6 := Lib.hid b
                have h6 := Lib.hid hp9
                clear b hp9
                have b7 := Lib.hid (b7.out.on q)
                have Z6 := Lib.hid (Z6.out.on q)
                have Q3 := Lib.hid (Q2.out.trans q)
                clear q hHeld
                refine hK.out _ _ (KS.out _ Q3.out) (fun hHeld => ?_)
                clear hK K
                refine pg ?_
                refine aR [5] ?_
                refine AllReadyH.cons (o := _) rfl (fun K hK => ?_) AllReadyH.nil
                · skip
                  go_simp
                  go_at_call 13
                  refine (CM1.out _ Q3.out).mono ?_
                  rintro e w4 ⟨A7, c7, rfl, hz9, q⟩
                  have Z7 := Lib.hid hz9
                  clear hz9
                  have b6 := Lib.hid (b6.out.on q)
                  have b7 := Lib.hid (b7.out.on q)
                  have Z6 := Lib.hid (Z6.out.on q)
                  have Q4 := Lib.hid (Q3.out.trans q)
                  clear q hHeld
                  refine hK.out _ _ (KS.out _ Q4.out) (fun hHeld => ?_)
                  clear hK K
                  refine pg ?_
                  have q8 := q_make (A := A6) (n := nL) (c := c6) (d := dL) Q4.out h6.out
                  have d8 := DB.make (d := dL) b6.out HnL.out Z6.out
                  have b8 := b_make (A := A6) (n := nL) (c := c6) (d := dL) b7.out (Ne.symm hne.out)
                  have z8 := z_make (A := A6) (n := nL) (c := c6) (d := dL) b6.out Z7.out
                  have f0 := b6.out.cell 0
                  have f1 := b6.out.cell 1
                  have f2 := b6.out.cell 2
                  have f3 := b6.out.cell 3
                  have f4 := b6.out.cell 4
                  have f5 := b6.out.cell 5
                  have g0 := b6.out.frozen 0
                  have g1 := b6.out.frozen 1
                  have g2 := b6.out.frozen 2
                  have g3 := b6.out.frozen 3
                  have g4 := b6.out.frozen 4
                  have g5 := b6.out.frozen 5
                  obtain ⟨we, hwe⟩ : ∃ z, z = ((((((w4.setCell ⟨p6, 0, none⟩ (.slice A6 nL c6)).setCell ⟨p6, 1, none⟩ (.int .i64 dL.size)).setCell ⟨p6, 2, none⟩ (.int .i64 dL.mo)).setCell ⟨p6, 3, none⟩ (.int .i64 dL.fuel)).setCell ⟨p6, 4, none⟩ (.bool dL.off)).setCell ⟨p6, 5, none⟩ (.int .i64 dL.bad)) := ⟨_, rfl⟩
                  rw [← hwe] at q8 d8 b8 z8
                  have Q8 := Lib.hid q8
                  have D8 := Lib.hid d8
                  have B8 := Lib.hid b8
                  have Z8 := Lib.hid z8
                  clear q8 d8 b8 z8
                  refine aR [8] ?_
                  refine AllReadyH.cons (o := _) rfl (fun K hK => ?_) AllReadyH.nil
                  go_simp
                  rw [← hwe]
                  clear hwe f0 f1 f2 f3 f4 f5 g0 g1 g2 g3 g4 g5 hHeld
                  refine hK.out _ _ (KS.out _ Q8.out) (fun hHeld => ?_)
                  clear hK K
                  refine pg ?_
                  have q9 := q_make (A := A7) (n := nM) (c := c7) (d := dM) Q8.out h7.out
                  have d9 := DB.make (d := dM) B8.out HnM.out Z8.out
                  have d10 := DB.make2 (A := A7) (n := nM) (c := c7) (d := dM) B8.out D8.out hne.out
                  have f0 := B8.out.cell 0
                  have f1 := B8.out.cell 1
                  have f2 := B8.out.cell 2
                  have f3 := B8.out.cell 3
                  have f4 := B8.out.cell 4
                  have f5 := B8.out.cell 5
                  have g0 := B8.out.frozen 0
                  have g1 := B8.out.frozen 1
                  have g2 := B8.out.frozen 2
                  have g3 := B8.out.frozen 3
                  have g4 := B8.out.frozen 4
                  have g5 := B8.out.frozen 5
                  obtain ⟨wf, hwe⟩ : ∃ z, z = ((((((we.setCell ⟨p7, 0, none⟩ (.slice A7 nM c7)).setCell ⟨p7, 1, none⟩ (.int .i64 dM.size)).setCell ⟨p7, 2, none⟩ (.int .i64 dM.mo)).setCell ⟨p7, 3, none⟩ (.int .i64 dM.fuel)).setCell ⟨p7, 4, none⟩ (.bool dM.off)).setCell ⟨p7, 5, none⟩ (.int .i64 dM.bad)) := ⟨_, rfl⟩
                  rw [← hwe] at q9 d9 d10
                  have Q9 := Lib.hid q9
                  have D9 := Lib.hid d9
                  have D10 := Lib.hid d10
                  clear q9 d9 d10
                  refine aR [9] ?_
                  refine AllReadyH.cons (o := _) rfl (fun K hK => ?_) AllReadyH.nil
                  go_simp
                  rw [← hwe]
                  clear hwe f0 f1 f2 f3 f4 f5 g0 g1 g2 g3 g4 g5 hHeld
                  refine hK.out _ _ (KS.out _ Q9.out) (fun hHeld => ?_)
                  clear hK K
                  refine pg ?_
                  refine wpAnyH_done (by kernel_rfl) ?_ _
                  go_wp2_with fail
                  go_meet
                  exact ⟨p6, p7, rfl, rfl, D10.out, D9.out, Q9.out⟩
          · skip
            go_simp
            have q := (Q.refl wd).alloc (.cells #[.slice none 0 0, .int .i64 0, .int .i64 0, .int .i64 0, .bool false, .int .i64 0] 24)
            have b := Bx.new wd 24 #[.slice none 0 0, .int .i64 0, .int .i64 0, .int .i64 0, .bool false, .int .i64 0]
            have hp9 := Qd.out.size
            obtain ⟨w1, hw⟩ : ∃ z, z = wd.alloc (.cells #[.slice none 0 0, .int .i64 0, .int .i64 0, .int .i64 0, .bool false, .int .i64 0] 24) := ⟨_, rfl⟩
            rw [← hw] at q b
            rw [← hw]
            clear hw
            obtain ⟨p6, hp⟩ : ∃ z, z = wd.heap.size := ⟨_, rfl⟩
            rw [← hp] at b hp9 ⊢
            clear hp 
            have b6 := Lib.hid b
            have h6 := Lib.hid hp9
            clear b hp9
            have Q1 := Lib.hid (Qd.out.trans q)
            clear q hHeld
            refine hK.out _ _ (KS.out _ Q1.out) (fun hHeld => ?_)
            clear hK K
            refine pg ?_
            refine aR [2, 7] ?_
            refine AllReadyH.cons (o := _) rfl (fun K hK => ?_) (AllReadyH.cons (o := _) rfl (fun K hK => ?_) AllReadyH.nil)
            · skip
              go_simp
              go_at_call 13
              refine (CL1.out _ Q1.out).mono ?_
              rintro e w2 ⟨A6, c6, rfl, hz9, q⟩
              have Z6 := Lib.hid hz9
              clear hz9
              have b6 := Lib.hid (b6.out.on q)
              have Q2 := Lib.hid (Q1.out.trans q)
              clear q hHeld
              refine hK.out _ _ (KS.out _ Q2.out) (fun hHeld => ?_)
              clear hK K
              refine pg ?_
              refine aR [5, 7] ?_
              refine AllReadyH.cons (o := _) rfl (fun K hK => ?_) (AllReadyH.cons (o := _) rfl (fun K hK => ?_) AllReadyH.nil)
              · skip
                go_simp
                go_at_call 13
                refine (CM1.out _ Q2.out).mono ?_
                rintro e w3 ⟨A7, c7, rfl, hz9, q⟩
                have Z7 := Lib.hid hz9
                clear hz9
                have b6 := Lib.hid (b6.out.on q)
                have Z6 := Lib.hid (Z6.out.on q)
                have Q3 := Lib.hid (Q2.out.trans q)
                clear q hHeld
                refine hK.out _ _ (KS.out _ Q3.out) (fun hHeld => ?_)
                clear hK K
                refine pg ?_
                refine aR [7] ?_
                refine AllReadyH.cons (o := _) rfl (fun K hK => ?_) AllReadyH.nil
                · skip
                  go_simp
                  have q := (Q.refl w3).alloc (.cells #[.slice none 0 0, .int .i64 0, .int .i64 0, .int .i64 0, .bool false, .int .i64 0] 24)
                  have b := Bx.new w3 24 #[.slice none 0 0, .int .i64 0, .int .i64 0, .int .i64 0, .bool false, .int .i64 0]
                  have hp9 := Q3.out.size
                  have hlt := b6.out.lt
                  have hne : Hid (p6 ≠ w3.heap.size) := Lib.hid (by omega)
                  obtain ⟨w4, hw⟩ : ∃ z, z = w3.alloc (.cells #[.slice none 0 0, .int .i64 0, .int .i64 0, .int .i64 0, .bool false, .int .i64 0] 24) := ⟨_, rfl⟩
                  rw [← hw] at q b
                  rw [← hw]
                  clear hw
                  obtain ⟨p7, hp⟩ : ∃ z, z = w3.heap.size := ⟨_, rfl⟩
                  rw [← hp] at b hp9 hne ⊢
                  clear hp hlt
                  have b7 := Lib.hid b
                  have h7 := Lib.hid hp9
                  clear b hp9
                  have b6 := Lib.hid (b6.out.on q)
                  have Z6 := Lib.hid (Z6.out.on q)
                  have Z7 := Lib.hid (Z7.out.on q)
                  have Q4 := Lib.hid (Q3.out.trans q)
                  clear q hHeld
                  refine hK.out _ _ (KS.out _ Q4.out) (fun hHeld => ?_)
                  clear hK K
                  refine pg ?_
                  have q8 := q_make (A := A6) (n := nL) (c := c6) (d := dL) Q4.out h6.out
                  have d8 := DB.make (d := dL) b6.out HnL.out Z6.out
                  have b8 := b_make (A := A6) (n := nL) (c := c6) (d := dL) b7.out (Ne.symm hne.out)
                  have z8 := z_make (A := A6) (n := nL) (c := c6) (d := dL) b6.out Z7.out
                  have f0 := b6.out.cell 0
                  have f1 := b6.out.cell 1
                  have f2 := b6.out.cell 2
                  have f3 := b6.out.cell 3
                  have f4 := b6.out.cell 4
                  have f5 := b6.out.cell 5
                  have g0 := b6.out.frozen 0
                  have g1 := b6.out.frozen 1
                  have g2 := b6.out.frozen 2
                  have g3 := b6.out.frozen 3
                  have g4 := b6.out.frozen 4
                  have g5 := b6.out.frozen 5
                  obtain ⟨we, hwe⟩ : ∃ z, z = ((((((w4.setCell ⟨p6, 0, none⟩ (.slice A6 nL c6)).setCell ⟨p6, 1, none⟩ (.int .i64 dL.size)).setCell ⟨p6, 2, none⟩ (.int .i64 dL.mo)).setCell ⟨p6, 3, none⟩ (.int .i64 dL.fuel)).setCell ⟨p6, 4, none⟩ (.bool dL.off)).setCell ⟨p6, 5, none⟩ (.int .i64 dL.bad)) := ⟨_, rfl⟩
                  rw [← hwe] at q8 d8 b8 z8
                  have Q8 := Lib.hid q8
                  have D8 := Lib.hid d8
                  have B8 := Lib.hid b8
                  have Z8 := Lib.hid z8
                  clear q8 d8 b8 z8
                  refine aR [8] ?_
                  refine AllReadyH.cons (o := _) rfl (fun K hK => ?_) AllReadyH.nil
                  go_simp
                  rw [← hwe]
                  clear hwe f0 f1 f2 f3 f4 f5 g0 g1 g2 g3 g4 g5 hHeld
                  refine hK.out _ _ (KS.out _ Q8.out) (fun hHeld => ?_)
                  clear hK K
                  refine pg ?_
                  have q9 := q_make (A := A7) (n := nM) (c := c7) (d := dM) Q8.out h7.out
                  have d9 := DB.make (d := dM) B8.out HnM.out Z8.out
                  have d10 := DB.make2 (A := A7) (n := nM) (c := c7) (d := dM) B8.out D8.out hne.out
                  have f0 := B8.out.cell 0
                  have f1 := B8.out.cell 1
                  have f2 := B8.out.cell 2
                  have f3 := B8.out.cell 3
                  have f4 := B8.out.cell 4
                  have f5 := B8.out.cell 5
                  have g0 := B8.out.frozen 0
                  have g1 := B8.out.frozen 1
                  have g2 := B8.out.frozen 2
                  have g3 := B8.out.frozen 3
                  have g4 := B8.out.frozen 4
                  have g5 := B8.out.frozen 5
                  obtain ⟨wf, hwe⟩ : ∃ z, z = ((((((we.setCell ⟨p7, 0, none⟩ (.slice A7 nM c7)).setCell ⟨p7, 1, none⟩ (.int .i64 dM.size)).setCell ⟨p7, 2, none⟩ (.int .i64 dM.mo)).setCell ⟨p7, 3, none⟩ (.int .i64 dM.fuel)).setCell ⟨p7, 4, none⟩ (.bool dM.off)).setCell ⟨p7, 5, none⟩ (.int .i64 dM.bad)) := ⟨_, rfl⟩
                  rw [← hwe] at q9 d9 d10
                  have Q9 := Lib.hid q9
                  have D9 := Lib.hid d9
                  have D10 := Lib.hid d10
                  clear q9 d9 d10
                  refine aR [9] ?_
                  refine AllReadyH.cons (o := _) rfl (fun K hK => ?_) AllReadyH.nil
                  go_simp
                  rw [← hwe]
                  clear hwe f0 f1 f2 f3 f4 f5 g0 g1 g2 g3 g4 g5 hHeld
                  refine hK.out _ _ (KS.out _ Q9.out) (fun hHeld => ?_)
                  clear hK K
                  refine pg ?_
                  refine wpAnyH_done (by kernel_rfl) ?_ _
                  go_wp2_with fail
                  go_meet
                  exact ⟨p6, p7, rfl, rfl, D10.out, D9.out, Q9.out⟩
              · skip
                go_simp
                have q := (Q.refl w2).alloc (.cells #[.slice none 0 0, .int .i64 0, .int .i64 0, .int .i64 0, .bool false, .int .i64 0] 24)
                have b := Bx.new w2 24 #[.slice none 0 0, .int .i64 0, .int .i64 0, .int .i64 0, .bool false, .int .i64 0]
                have hp9 := Q2.out.size
                have hlt := b6.out.lt
                have hne : Hid (p6 ≠ w2.heap.size) := Lib.hid (by omega)
                obtain ⟨w3, hw⟩ : ∃ z, z = w2.alloc (.cells #[.slice none 0 0, .int .i64 0, .int .i64 0, .int .i64 0, .bool false, .int .i64 0] 24) := ⟨_, rfl⟩
                rw [← hw] at q b
                rw [← hw]
                clear hw
                obtain ⟨p7, hp⟩ : ∃ z, z = w2.heap.size := ⟨_, rfl⟩
                rw [← hp] at b hp9 hne ⊢
                clear hp hlt
                have b7 := Lib.hid b
                have h7 := Lib.hid hp9
                clear b hp9
                have b6 := Lib.hid (b6.out.on q)
                have Z6 := Lib.hid (Z6.out.on q)
                have Q3 := Lib.hid (Q2.out.trans q)
                clear q hHeld
                refine hK.out _ _ (KS.out _ Q3.out) (fun hHeld => ?_)
                clear hK K
                refine pg ?_
                refine aR [5] ?_
                refine AllReadyH.cons (o := _) rfl (fun K hK => ?_) AllReadyH.nil
                · skip
                  go_simp
                  go_at_call 13
                  refine (CM1.out _ Q3.out).mono ?_
                  rintro e w4 ⟨A7, c7, rfl, hz9, q⟩
                  have Z7 := Lib.hid hz9
                  clear hz9
                  have b6 := Lib.hid (b6.out.on q)
                  have b7 := Lib.hid (b7.out.on q)
                  have Z6 := Lib.hid (Z6.out.on q)
                  have Q4 := Lib.hid (Q3.out.trans q)
                  clear q hHeld
                  refine hK.out _ _ (KS.out _ Q4.out) (fun hHeld => ?_)
                  clear hK K
                  refine pg ?_
                  have q8 := q_make (A := A6) (n := nL) (c := c6) (d := dL) Q4.out h6.out
                  have d8 := DB.make (d := dL) b6.out HnL.out Z6.out
                  have b8 := b_make (A := A6) (n := nL) (c := c6) (d := dL) b7.out (Ne.symm hne.out)
                  have z8 := z_make (A := A6) (n := nL) (c := c6) (d := dL) b6.out Z7.out
                  have f0 := b6.out.cell 0
                  have f1 := b6.out.cell 1
                  have f2 := b6.out.cell 2
                  have f3 := b6.out.cell 3
                  have f4 := b6.out.cell 4
                  have f5 := b6.out.cell 5
                  have g0 := b6.out.frozen 0
                  have g1 := b6.out.frozen 1
                  have g2 := b6.out.frozen 2
                  have g3 := b6.out.frozen 3
                  have g4 := b6.out.frozen 4
                  have g5 := b6.out.frozen 5
                  obtain ⟨we, hwe⟩ : ∃ z, z = ((((((w4.setCell ⟨p6, 0, none⟩ (.slice A6 nL c6)).setCell ⟨p6, 1, none⟩ (.int .i64 dL.size)).setCell ⟨p6, 2, none⟩ (.int .i64 dL.mo)).setCell ⟨p6, 3, none⟩ (.int .i64 dL.fuel)).setCell ⟨p6, 4, none⟩ (.bool dL.off)).setCell ⟨p6, 5, none⟩ (.int .i64 dL.bad)) := ⟨_, rfl⟩
                  rw [← hwe] at q8 d8 b8 z8
                  have Q8 := Lib.hid q8
                  have D8 := Lib.hid d8
                  have B8 := Lib.hid b8
                  have Z8 := Lib.hid z8
                  clear q8 d8 b8 z8
                  refine aR [8] ?_
                  refine AllReadyH.cons (o := _) rfl (fun K hK => ?_) AllReadyH.nil
                  go_simp
                  rw [← hwe]
                  clear hwe f0 f1 f2 f3 f4 f5 g0 g1 g2 g3 g4 g5 hHeld
                  refine hK.out _ _ (KS.out _ Q8.out) (fun hHeld => ?_)
                  clear hK K
                  refine pg ?_
                  have q9 := q_make (A := A7) (n := nM) (c := c7) (d := dM) Q8.out h7.out
                  have d9 := DB.make (d := dM) B8.out HnM.out Z8.out
                  have d10 := DB.make2 (A := A7) (n := nM) (c := c7) (d := dM) B8.out D8.out hne.out
                  have f0 := B8.out.cell 0
                  have f1 := B8.out.cell 1
                  have f2 := B8.out.cell 2
                  have f3 := B8.out.cell 3
                  have f4 := B8.out.cell 4
                  have f5 := B8.out.cell 5
                  have g0 := B8.out.frozen 0
                  have g1 := B8.out.frozen 1
                  have g2 := B8.out.frozen 2
                  have g3 := B8.out.frozen 3
                  have g4 := B8.out.frozen 4
                  have g5 := B8.out.frozen 5
                  obtain ⟨wf, hwe⟩ : ∃ z, z = ((((((we.setCell ⟨p7, 0, none⟩ (.slice A7 nM c7)).setCell ⟨p7, 1, none⟩ (.int .i64 dM.size)).setCell ⟨p7, 2, none⟩ (.int .i64 dM.mo)).setCell ⟨p7, 3, none⟩ (.int .i64 dM.fuel)).setCell ⟨p7, 4, none⟩ (.bool dM.off)).setCell ⟨p7, 5, none⟩ (.int .i64 dM.bad)) := ⟨_, rfl⟩
                  rw [← hwe] at q9 d9 d10
                  have Q9 := Lib.hid q9
                  have D9 := Lib.hid d9
                  have D10 := Lib.hid d10
                  clear q9 d9 d10
                  refine aR [9] ?_
                  refine AllReadyH.cons (o := _) rfl (fun K hK => ?_) AllReadyH.nil
                  go_simp
                  rw [← hwe]
                  clear hwe f0 f1 f2 f3 f4 f5 g0 g1 g2 g3 g4 g5 hHeld
                  refine hK.out _ _ (KS.out _ Q9.out) (fun hHeld => ?_)
                  clear hK K
                  refine pg ?_
                  refine wpAnyH_done (by kernel_rfl) ?_ _
                  go_wp2_with fail
                  go_meet
                  exact ⟨p6, p7, rfl, rfl, D10.out, D9.out, Q9.out⟩
            · skip
              go_simp
              have q := (Q.refl w1).alloc (.cells #[.slice none 0 0, .int .i64 0, .int .i64 0, .int .i64 0, .bool false, .int .i64 0] 24)
              have b := Bx.new w1 24 #[.slice none 0 0, .int .i64 0, .int .i64 0, .int .i64 0, .bool false, .int .i64 0]
              have hp9 := Q1.out.size
              have hlt := b6.out.lt
              have hne : Hid (p6 ≠ w1.heap.size) := Lib.hid (by omega)
              obtain ⟨w2, hw⟩ : ∃ z, z = w1.alloc (.cells #[.slice none 0 0, .int .i64 0, .int .i64 0, .int .i64 0, .bool false, .int .i64 0] 24) := ⟨_, rfl⟩
              rw [← hw] at q b
              rw [← hw]
              clear hw
              obtain ⟨p7, hp⟩ : ∃ z, z = w1.heap.size := ⟨_, rfl⟩
              rw [← hp] at b hp9 hne ⊢
              clear hp hlt
              have b7 := Lib.hid b
              have h7 := Lib.hid hp9
              clear b hp9
              have b6 := Lib.hid (b6.out.on q)
              have Q2 := Lib.hid (Q1.out.trans q)
              clear q hHeld
              refine hK.out _ _ (KS.out _ Q2.out) (fun hHeld => ?_)
              clear hK K
              refine pg ?_
              refine aR [2] ?_
              refine AllReadyH.cons (o := _) rfl (fun K hK => ?_) AllReadyH.nil
              · skip
                go_simp
                go_at_call 13
                refine (CL1.out _ Q2.out).mono ?_
                rintro e w3 ⟨A6, c6, rfl, hz9, q⟩
                have Z6 := Lib.hid hz9
                clear hz9
                have b6 := Lib.hid (b6.out.on q)
                have b7 := Lib.hid (b7.out.on q)
                have Q3 := Lib.hid (Q2.out.trans q)
                clear q hHeld
                refine hK.out _ _ (KS.out _ Q3.out) (fun hHeld => ?_)
                clear hK K
                refine pg ?_
                refine aR [5] ?_
                refine AllReadyH.cons (o := _) rfl (fun K hK => ?_) AllReadyH.nil
                · skip
                  go_simp
                  go_at_call 13
                  refine (CM1.out _ Q3.out).mono ?_
                  rintro e w4 ⟨A7, c7, rfl, hz9, q⟩
                  have Z7 := Lib.hid hz9
                  clear hz9
                  have b6 := Lib.hid (b6.out.on q)
                  have b7 := Lib.hid (b7.out.on q)
                  have Z6 := Lib.hid (Z6.out.on q)
                  have Q4 := Lib.hid (Q3.out.trans q)
                  clear q hHeld
                  refine hK.out _ _ (KS.out _ Q4.out) (fun hHeld => ?_)
                  clear hK K
                  refine pg ?_
                  have q8 := q_make (A := A6) (n := nL) (c := c6) (d := dL) Q4.out h6.out
                  have d8 := DB.make (d := dL) b6.out HnL.out Z6.out
                  have b8 := b_make (A := A6) (n := nL) (c := c6) (d := dL) b7.out (Ne.symm hne.out)
                  have z8 := z_make (A := A6) (n := nL) (c := c6) (d := dL) b6.out Z7.out
                  have f0 := b6.out.cell 0
                  have f1 := b6.out.cell 1
                  have f2 := b6.out.cell 2
                  have f3 := b6.out.cell 3
                  have f4 := b6.out.cell 4
                  have f5 := b6.out.cell 5
                  have g0 := b6.out.frozen 0
                  have g1 := b6.out.frozen 1
                  have g2 := b6.out.frozen 2
                  have g3 := b6.out.frozen 3
                  have g4 := b6.out.frozen 4
                  have g5 := b6.out.frozen 5
                  obtain ⟨we, hwe⟩ : ∃ z, z = ((((((w4.setCell ⟨p6, 0, none⟩ (.slice A6 nL c6)).setCell ⟨p6, 1, none⟩ (.int .i64 dL.size)).setCell ⟨p6, 2, none⟩ (.int .i64 dL.mo)).setCell ⟨p6, 3, none⟩ (.int .i64 dL.fuel)).setCell ⟨p6, 4, none⟩ (.bool dL.off)).setCell ⟨p6, 5, none⟩ (.int .i64 dL.bad)) := ⟨_, rfl⟩
                  rw [← hwe] at q8 d8 b8 z8
                  have Q8 := Lib.hid q8
                  have D8 := Lib.hid d8
                  have B8 := Lib.hid b8
                  have Z8 := Lib.hid z8
                  clear q8 d8 b8 z8
                  refine aR [8] ?_
                  refine AllReadyH.cons (o := _) rfl (fun K hK => ?_) AllReadyH.nil
                  go_simp
                  rw [← hwe]
                  clear hwe f0 f1 f2 f3 f4 f5 g0 g1 g2 g3 g4 g5 hHeld
                  refine hK.out _ _ (KS.out _ Q8.out) (fun hHeld => ?_)
                  clear hK K
                  refine pg ?_
                  have q9 := q_make (A := A7) (n := nM) (c := c7) (d := dM) Q8.out h7.out
                  have d9 := DB.make (d := dM) B8.out HnM.out Z8.out
                  have d10 := DB.make2 (A := A7) (n := nM) (c := c7) (d := dM) B8.out D8.out hne.out
                  have f0 := B8.out.cell 0
                  have f1 := B8.out.cell 1
                  have f2 := B8.out.cell 2
                  have f3 := B8.out.cell 3
                  have f4 := B8.out.cell 4
                  have f5 := B8.out.cell 5
                  have g0 := B8.out.frozen 0
                  have g1 := B8.out.frozen 1
                  have g2 := B8.out.frozen 2
                  have g3 := B8.out.frozen 3
                  have g4 := B8.out.frozen 4
                  have g5 := B8.out.frozen 5
                  obtain ⟨wf, hwe⟩ : ∃ z, z = ((((((we.setCell ⟨p7, 0, none⟩ (.slice A7 nM c7)).setCell ⟨p7, 1, none⟩ (.int .i64 dM.size)).setCell ⟨p7, 2, none⟩ (.int .i64 dM.mo)).setCell ⟨p7, 3, none⟩ (.int .i64 dM.fuel)).setCell ⟨p7, 4, none⟩ (.bool dM.off)).setCell ⟨p7, 5, none⟩ (.int .i64 dM.bad)) := ⟨_, rfl⟩
                  rw [← hwe] at q9 d9 d10
                  have Q9 := Lib.hid q9
                  have D9 := Lib.hid d9
                  have D10 := Lib.hid d10
                  clear q9 d9 d10
                  refine aR [9] ?_
                  refine AllReadyH.cons (o := _) rfl (fun K hK => ?_) AllReadyH.nil
                  go_simp
                  rw [← hwe]
                  clear hwe f0 f1 f2 f3 f4 f5 g0 g1 g2 g3 g4 g5 hHeld
                  refine hK.out _ _ (KS.out _ Q9.out) (fun hHeld => ?_)
                  clear hK K
                  refine pg ?_
                  refine wpAnyH_done (by kernel_rfl) ?_ _
                  go_wp2_with fail
                  go_meet
                  exact ⟨p6, p7, rfl, rfl, D10.out, D9.out, Q9.out⟩
          · skip
            go_simp
            have q := (Q.refl wd).alloc (.cells #[.slice none 0 0, .int .i64 0, .int .i64 0, .int .i64 0, .bool false, .int .i64 0] 24)
            have b := Bx.new wd 24 #[.slice none 0 0, .int .i64 0, .int .i64 0, .int .i64 0, .bool false, .int .i64 0]
            have hp9 := Qd.out.size
            obtain ⟨w1, hw⟩ : ∃ z, z = wd.alloc (.cells #[.slice none 0 0, .int .i64 0, .int .i64 0, .int .i64 0, .bool false, .int .i64 0] 24) := ⟨_, rfl⟩
            rw [← hw] at q b
            rw [← hw]
            clear hw
            obtain ⟨p7, hp⟩ : ∃ z, z = wd.heap.size := ⟨_, rfl⟩
            rw [← hp] at b hp9 ⊢
            clear hp 
            have b7 := Lib.hid b
            have h7 := Lib.hid hp9
            clear b hp9
            have Q1 := Lib.hid (Qd.out.trans q)
            clear q hHeld
            refine hK.out _ _ (KS.out _ Q1.out) (fun hHeld => ?_)
            clear hK K
            refine pg ?_
            refine aR [2, 6] ?_
            refine AllReadyH.cons (o := _) rfl (fun K hK => ?_) (AllReadyH.cons (o := _) rfl (fun K hK => ?_) AllReadyH.nil)
            · skip
              go_simp
              go_at_call 13
              refine (CL1.out _ Q1.out).mono ?_
              rintro e w2 ⟨A6, c6, rfl, hz9, q⟩
              have Z6 := Lib.hid hz9
              clear hz9
              have b7 := Lib.hid (b7.out.on q)
              have Q2 := Lib.hid (Q1.out.trans q)
              clear q hHeld
              refine hK.out _ _ (KS.out _ Q2.out) (fun hHeld => ?_)
              clear hK K
              refine pg ?_
              refine aR [5, 6] ?_
              refine AllReadyH.cons (o := _) rfl (fun K hK => ?_) (AllReadyH.cons (o := _) rfl (fun K hK => ?_) AllReadyH.nil)
              · skip
                go_simp
                go_at_call 13
                refine (CM1.out _ Q2.out).mono ?_
                rintro e w3 ⟨A7, c7, rfl, hz9, q⟩
                have Z7 := Lib.hid hz9
                clear hz9
                have b7 := Lib.hid (b7.out.on q)
                have Z6 := Lib.hid (Z6.out.on q)
                have Q3 := Lib.hid (Q2.out.trans q)
                clear q hHeld
                refine hK.out _ _ (KS.out _ Q3.out) (fun hHeld => ?_)
                clear hK K
                refine pg ?_
                refine aR [6] ?_
                refine AllReadyH.cons (o := _) rfl (fun K hK => ?_) AllReadyH.nil
                · skip
                  go_simp
                  have q := (Q.refl w3).alloc (.cells #[.slice none 0 0, .int .i64 0, .int .i64 0, .int .i64 0, .bool false, .int .i64 0] 24)
                  have b := Bx.new w3 24 #[.slice none 0 0, .int .i64 0, .int .i64 0, .int .i64 0, .bool false, .int .i64 0]
                  have hp9 := Q3.out.size
                  have hlt := b7.out.lt
                  have hne : Hid (w3.heap.size ≠ p7) := Lib.hid (by omega)
                  obtain ⟨w4, hw⟩ : ∃ z, z = w3.alloc (.cells #[.slice none 0 0, .int .i64 0, .int .i64 0, .int .i64 0, .bool false, .int .i64 0] 24) := ⟨_, rfl⟩
                  rw [← hw] at q b
                  rw [← hw]
                  clear hw
                  obtain ⟨p6, hp⟩ : ∃ z, z = w3.heap.size := ⟨_, rfl⟩
                  rw [← hp] at b hp9 hne ⊢
                  clear hp hlt
                  have b6 := Lib.hid b
                  have h6 := Lib.hid hp9
                  clear b hp9
                  have b7 := Lib.hid (b7.out.on q)
                  have Z6 := Lib.hid (Z6.out.on q)
                  have Z7 := Lib.hid (Z7.out.on q)
                  have Q4 := Lib.hid (Q3.out.trans q)
                  clear q hHeld
                  refine hK.out _ _ (KS.out _ Q4.out) (fun hHeld => ?_)
                  clear hK K
                  refine pg ?_
                  have q8 := q_make (A := A6) (n := nL) (c := c6) (d := dL) Q4.out h6.out
                  have d8 := DB.make (d := dL) b6.out HnL.out Z6.out
                  have b8 := b_make (A := A6) (n := nL) (c := c6) (d := dL) b7.out (Ne.symm hne.out)
                  have z8 := z_make (A := A6) (n := nL) (c := c6) (d := dL) b6.out Z7.out
                  have f0 := b6.out.cell 0
                  have f1 := b6.out.cell 1
                  have f2 := b6.out.cell 2
                  have f3 := b6.out.cell 3
                  have f4 := b6.out.cell 4
                  have f5 := b6.out.cell 5
                  have g0 := b6.out.frozen 0
                  have g1 := b6.out.frozen 1
                  have g2 := b6.out.frozen 2
                  have g3 := b6.out.frozen 3
                  have g4 := b6.out.frozen 4
                  have g5 := b6.out.frozen 5
                  obtain ⟨we, hwe⟩ : ∃ z, z = ((((((w4.setCell ⟨p6, 0, none⟩ (.slice A6 nL c6)).setCell ⟨p6, 1, none⟩ (.int .i64 dL.size)).setCell ⟨p6, 2, none⟩ (.int .i64 dL.mo)).setCell ⟨p6, 3, none⟩ (.int .i64 dL.fuel)).setCell ⟨p6, 4, none⟩ (.bool dL.off)).setCell ⟨p6, 5, none⟩ (.int .i64 dL.bad)) := ⟨_, rfl⟩
                  rw [← hwe] at q8 d8 b8 z8
                  have Q8 := Lib.hid q8
                  have D8 := Lib.hid d8
                  have B8 := Lib.hid b8
                  have Z8 := Lib.hid z8
                  clear q8 d8 b8 z8
                  refine aR [8] ?_
                  refine AllReadyH.cons (o := _) rfl (fun K hK => ?_) AllReadyH.nil
                  go_simp
                  rw [← hwe]
                  clear hwe f0 f1 f2 f3 f4 f5 g0 g1 g2 g3 g4 g5 hHeld
                  refine hK.out _ _ (KS.out _ Q8.out) (fun hHeld => ?_)
                  clear hK K
                  refine pg ?_
                  have q9 := q_make (A := A7) (n := nM) (c := c7) (d := dM) Q8.out h7.out
                  have d9 := DB.make (d := dM) B8.out HnM.out Z8.out
                  have d10 := DB.make2 (A := A7) (n := nM) (c := c7) (d := dM) B8.out D8.out hne.out
                  have f0 := B8.out.cell 0
                  have f1 := B8.out.cell 1
                  have f2 := B8.out.cell 2
                  have f3 := B8.out.cell 3
                  have f4 := B8.out.cell 4
                  have f5 := B8.out.cell 5
                  have g0 := B8.out.frozen 0
                  have g1 := B8.out.frozen 1
                  have g2 := B8.out.frozen 2
                  have g3 := B8.out.frozen 3
                  have g4 := B8.out.frozen 4
                  have g5 := B8.out.frozen 5
                  obtain ⟨wf, hwe⟩ : ∃ z, z = ((((((we.setCell ⟨p7, 0, none⟩ (.slice A7 nM c7)).setCell ⟨p7, 1, none⟩ (.int .i64 dM.size)).setCell ⟨p7, 2, none⟩ (.int .i64 dM.mo)).setCell ⟨p7, 3, none⟩ (.int .i64 dM.fuel)).setCell ⟨p7, 4, none⟩ (.bool dM.off)).setCell ⟨p7, 5, none⟩ (.int .i64 dM.bad)) := ⟨_, rfl⟩
                  rw [← hwe] at q9 d9 d10
                  have Q9 := Lib.hid q9
                  have D9 := Lib.hid d9
                  have D10 := Lib.hid d10
                  clear q9 d9 d10
                  refine aR [9] ?_
                  refine AllReadyH.cons (o := _) rfl (fun K hK => ?_) AllReadyH.nil
                  go_simp
                  rw [← hwe]
                  clear hwe f0 f1 f2 f3 f4 f5 g0 g1 g2 g3 g4 g5 hHeld
                  refine hK.out _ _ (KS.out _ Q9.out) (fun hHeld => ?_)
                  clear hK K
                  refine pg ?_
                  refine wpAnyH_done (by kernel_rfl) ?_ _
                  go_wp2_with fail
                  go_meet
                  exact ⟨p6, p7, rfl, rfl, D10.out, D9.out, Q9.out⟩
              · skip
                go_simp
                have q := (Q.refl w2).alloc (.cells #[.slice none 0 0, .int .i64 0, .int .i64 0, .int .i64 0, .bool false, .int .i64 0] 24)
                have b := Bx.new w2 24 #[.slice none 0 0, .int .i64 0, .int .i64 0, .int .i64 0, .bool false, .int .i64 0]
                have hp9 := Q2.out.size
                have hlt := b7.out.lt
                have hne : Hid (w2.heap.size ≠ p7) := Lib.hid (by omega)
                obtain ⟨w3, hw⟩ : ∃ z, z = w2.alloc (.cells #[.slice none 0 0, .int .i64 0, .int .i64 0, .int .i64 0, .bool false, .int .i64 0] 24) := ⟨_, rfl⟩
                rw [← hw] at q b
                rw [← hw]
                clear hw
                obtain ⟨p6, hp⟩ : ∃ z, z = w2.heap.size := ⟨_, rfl⟩
                rw [← hp] at b hp9 hne ⊢
                clear hp hlt
                have b6 := Lib.hid b
                have h6 := Lib.hid hp9
                clear b hp9
                have b7 := Lib.hid (b7.out.on q)
                have Z6 := Lib.hid (Z6.out.on q)
                have Q3 := Lib.hid (Q2.out.trans q)
                clear q hHeld
                refine hK.out _ _ (KS.out _ Q3.out) (fun hHeld => ?_)
                clear hK K
                refine pg ?_
                refine aR [5] ?_
                refine AllReadyH.cons (o := _) rfl (fun K hK => ?_) AllReadyH.nil
                · skip
                  go_simp
                  go_at_call 13
                  refine (CM1.out _ Q3.out).mono ?_
                  rintro e w4 ⟨A7, c7, rfl, hz9, q⟩
                  have Z7 := Lib.hid hz9
                  clear hz9
                  have b6 := Lib.hid (b6.out.on q)
                  have b7 := Lib.hid (b7.out.on q)
                  have Z6 := Lib.hid (Z6.out.on q)
                  have Q4 := Lib.hid (Q3.out.trans q)
                  clear q hHeld
                  refine hK.out _ _ (KS.out _ Q4.out) (fun hHeld => ?_)
                  clear hK K
                  refine pg ?_
                  have q8 := q_make (A := A6) (n := nL) (c := c6) (d := dL) Q4.out h6.out
                  have d8 := DB.make (d := dL) b6.out HnL.out Z6.out
                  have b8 := b_make (A := A6) (n := nL) (c := c6) (d := dL) b7.out (Ne.symm hne.out)
                  have z8 := z_make (A := A6) (n := nL) (c := c6) (d := dL) b6.out Z7.out
                  have f0 := b6.out.cell 0
                  have f1 := b6.out.cell 1
                  have f2 := b6.out.cell 2
                  have f3 := b6.out.cell 3
                  have f4 := b6.out.cell 4
                  have f5 := b6.out.cell 5
                  have g0 := b6.out.frozen 0
                  have g1 := b6.out.frozen 1
                  have g2 := b6.out.frozen 2
                  have g3 := b6.out.frozen 3
                  have g4 := b6.out.frozen 4
                  have g5 := b6.out.frozen 5
                  obtain ⟨we, hwe⟩ : ∃ z, z = ((((((w4.setCell ⟨p6, 0, none⟩ (.slice A6 nL c6)).setCell ⟨p6, 1, none⟩ (.int .i64 dL.size)).setCell ⟨p6, 2, none⟩ (.int .i64 dL.mo)).setCell ⟨p6, 3, none⟩ (.int .i64 dL.fuel)).setCell ⟨p6, 4, none⟩ (.bool dL.off)).setCell ⟨p6, 5, none⟩ (.int .i64 dL.bad)) := ⟨_, rfl⟩
                  rw [← hwe] at q8 d8 b8 z8
                  have Q8 := Lib.hid q8
                  have D8 := Lib.hid d8
                  have B8 := Lib.hid b8
                  have Z8 := Lib.hid z8
                  clear q8 d8 b8 z8
                  refine aR [8] ?_
                  refine AllReadyH.cons (o := _) rfl (fun K hK => ?_) AllReadyH.nil
                  go_simp
                  rw [← hwe]
                  clear hwe f0 f1 f2 f3 f4 f5 g0 g1 g2 g3 g4 g5 hHeld
                  refine hK.out _ _ (KS.out _ Q8.out) (fun hHeld => ?_)
                  clear hK K
                  refine pg ?_
                  have q9 := q_make (A := A7) (n := nM) (c := c7) (d := dM) Q8.out h7.out
                  have d9 := DB.make (d := dM) B8.out HnM.out Z8.out
                  have d10 := DB.make2 (A := A7) (n := nM) (c := c7) (d := dM) B8.out D8.out hne.out
                  have f0 := B8.out.cell 0
                  have f1 := B8.out.cell 1
                  have f2 := B8.out.cell 2
                  have f3 := B8.out.cell 3
                  have f4 := B8.out.cell 4
                  have f5 := B8.out.cell 5
                  have g0 := B8.out.frozen 0
                  have g1 := B8.out.frozen 1
                  have g2 := B8.out.frozen 2
                  have g3 := B8.out.frozen 3
                  have g4 := B8.out.frozen 4
                  have g5 := B8.out.frozen 5
                  obtain ⟨wf, hwe⟩ : ∃ z, z = ((((((we.setCell ⟨p7, 0, none⟩ (.slice A7 nM c7)).setCell ⟨p7, 1, none⟩ (.int .i64 dM.size)).setCell ⟨p7, 2, none⟩ (.int .i64 dM.mo)).setCell ⟨p7, 3, none⟩ (.int .i64 dM.fuel)).setCell ⟨p7, 4, none⟩ (.bool dM.off)).setCell ⟨p7, 5, none⟩ (.int .i64 dM.bad)) := ⟨_, rfl⟩
                  rw [← hwe] at q9 d9 d10
                  have Q9 := Lib.hid q9
                  have D9 := Lib.hid d9
                  have D10 := Lib.hid d10
                  clear q9 d9 d10
                  refine aR [9] ?_
                  refine AllReadyH.cons (o := _) rfl (fun K hK => ?_) AllReadyH.nil
                  go_simp
                  rw [← hwe]
                  clear hwe f0 f1 f2 f3 f4 f5 g0 g1 g2 g3 g4 g5 hHeld
                  refine hK.out _ _ (KS.out _ Q9.out) (fun hHeld => ?_)
                  clear hK K
                  refine pg ?_
                  refine wpAnyH_done (by kernel_rfl) ?_ _
                  go_wp2_with fail
                  go_meet
                  exact ⟨p6, p7, rfl, rfl, D10.out, D9.out, Q9.out⟩
            · skip
              go_simp
              have q := (Q.refl w1).alloc (.cells #[.slice none 0 0, .int .i64 0, .int .i64 0, .int .i64 0, .bool false, .int .i64 0] 24)
              have b := Bx.new w1 24 #[.slice none 0 0, .int .i64 0, .int .i64 0, .int .i64 0, .bool false, .int .i64 0]
              have hp9 := Q1.out.size
              have hlt := b7.out.lt
              have hne : Hid (w1.heap.size ≠ p7) := Lib.hid (by omega)
              obtain ⟨w2, hw⟩ : ∃ z, z = w1.alloc (.cells #[.slice none 0 0, .int .i64 0, .int .i64 0, .int .i64 0, .bool false, .int .i64 0] 24) := ⟨_, rfl⟩
              rw [← hw] at q b
              rw [← hw]
              clear hw
              obtain ⟨p6, hp⟩ : ∃ z, z = w1.heap.size := ⟨_, rfl⟩
              rw [← hp] at b hp9 hne ⊢
              clear hp hlt
              have b6 := Lib.hid b
              have h6 := Lib.hid hp9
              clear b hp9
              have b7 := Lib.hid (b7.out.on q)
              have Q2 := Lib.hid (Q1.out.trans q)
              clear q hHeld
              refine hK.out _ _ (KS.out _ Q2.out) (fun hHeld => ?_)
              clear hK K
              refine pg ?_
              refine aR [2] ?_
              refine AllReadyH.cons (o := _) rfl (fun K hK => ?_) AllReadyH.nil
              · skip
                go_simp
                go_at_call 13
                refine (CL1.out _ Q2.out).mono ?_
                rintro e w3 ⟨A6, c6, rfl, hz9, q⟩
                have Z6 := Lib.hid hz9
                clear hz9
                have b6 := Lib.hid (b6.out.on q)
                have b7 := Lib.hid (b7.out.on q)
                have Q3 := Lib.hid (Q2.out.trans q)
                clear q hHeld
                refine hK.out _ _ (KS.out _ Q3.out) (fun hHeld => ?_)
                clear hK K
                refine pg ?_
                refine aR [5] ?_
                refine AllReadyH.cons (o := _) rfl (fun K hK => ?_) AllReadyH.nil
                · skip
                  go_simp
                  go_at_call 13
                  refine (CM1.out _ Q3.out).mono ?_
                  rintro e w4 ⟨A7, c7, rfl, hz9, q⟩
                  have Z7 := Lib.hid hz9
                  clear hz9
                  have b6 := Lib.hid (b6.out.on q)
                  have b7 := Lib.hid (b7.out.on q)
                  have Z6 := Lib.hid (Z6.out.on q)
                  have Q4 := Lib.hid (Q3.out.trans q)
                  clear q hHeld
                  refine hK.out _ _ (KS.out _ Q4.out) (fun hHeld => ?_)
                  clear hK K
                  refine pg ?_
                  have q8 := q_make (A := A6) (n := nL) (c := c6) (d := dL) Q4.out h6.out
                  have d8 := DB.make (d := dL) b6.out HnL.out Z6.out
                  have b8 := b_make (A := A6) (n := nL) (c := c6) (d := dL) b7.out (Ne.symm hne.out)
                  have z8 := z_make (A := A6) (n := nL) (c := c6) (d := dL) b6.out Z7.out
                  have f0 := b6.out.cell 0
                  have f1 := b6.out.cell 1
                  have f2 := b6.out.cell 2
                  have f3 := b6.out.cell 3
                  have f4 := b6.out.cell 4
                  have f5 := b6.out.cell 5
                  have g0 := b6.out.frozen 0
                  have g1 := b6.out.frozen 1
                  have g2 := b6.out.frozen 2
                  have g3 := b6.out.frozen 3
                  have g4 := b6.out.frozen 4
                  have g5 := b6.out.frozen 5
                  obtain ⟨we, hwe⟩ : ∃ z, z = ((((((w4.setCell ⟨p6, 0, none⟩ (.slice A6 nL c6)).setCell ⟨p6, 1, none⟩ (.int .i64 dL.size)).setCell ⟨p6, 2, none⟩ (.int .i64 dL.mo)).setCell ⟨p6, 3, none⟩ (.int .i64 dL.fuel)).setCell ⟨p6, 4, none⟩ (.bool dL.off)).setCell ⟨p6, 5, none⟩ (.int .i64 dL.bad)) := ⟨_, rfl⟩
                  rw [← hwe] at q8 d8 b8 z8
                  have Q8 := Lib.hid q8
                  have D8 := Lib.hid d8
                  have B8 := Lib.hid b8
                  have Z8 := Lib.hid z8
                  clear q8 d8 b8 z8
                  refine aR [8] ?_
                  refine AllReadyH.cons (o := _) rfl (fun K hK => ?_) AllReadyH.nil
                  go_simp
                  rw [← hwe]
                  clear hwe f0 f1 f2 f3 f4 f5 g0 g1 g2 g3 g4 g5 hHeld
                  refine hK.out _ _ (KS.out _ Q8.out) (fun hHeld => ?_)
                  clear hK K
                  refine pg ?_
                  have q9 := q_make (A := A7) (n := nM) (c := c7) (d := dM) Q8.out h7.out
                  have d9 := DB.make (d := dM) B8.out HnM.out Z8.out
                  have d10 := DB.make2 (A := A7) (n := nM) (c := c7) (d := dM) B8.out D8.out hne.out
                  have f0 := B8.out.cell 0
                  have f1 := B8.out.cell 1
                  have f2 := B8.out.cell 2
                  have f3 := B8.out.cell 3
                  have f4 := B8.out.cell 4
                  have f5 := B8.out.cell 5
                  have g0 := B8.out.frozen 0
                  have g1 := B8.out.frozen 1
                  have g2 := B8.out.frozen 2
                  have g3 := B8.out.frozen 3
                  have g4 := B8.out.frozen 4
                  have g5 := B8.out.frozen 5
                  obtain ⟨wf, hwe⟩ : ∃ z, z = ((((((we.setCell ⟨p7, 0, none⟩ (.slice A7 nM c7)).setCell ⟨p7, 1, none⟩ (.int .i64 dM.size)).setCell ⟨p7, 2, none⟩ (.int .i64 dM.mo)).setCell ⟨p7, 3, none⟩ (.int .i64 dM.fuel)).setCell ⟨p7, 4, none⟩ (.bool dM.off)).setCell ⟨p7, 5, none⟩ (.int .i64 dM.bad)) := ⟨_, rfl⟩
                  rw [← hwe] at q9 d9 d10
                  have Q9 := Lib.hid q9
                  have D9 := Lib.hid d9
                  have D10 := Lib.hid d10
                  clear q9 d9 d10
                  refine aR [9] ?_
                  refine AllReadyH.cons (o := _) rfl (fun K hK => ?_) AllReadyH.nil
                  go_simp
                  rw [← hwe]
                  clear hwe f0 f1 f2 f3 f4 f5 g0 g1 g2 g3 g4 g5 hHeld
                  refine hK.out _ _ (KS.out _ Q9.out) (fun hHeld => ?_)
                  clear hK K
                  refine pg ?_
                  refine wpAnyH_done (by kernel_rfl) ?_ _
                  go_wp2_with fail
                  go_meet
                  exact ⟨p6, p7, rfl, rfl, D10.out, D9.out, Q9.out⟩
        case rest =>
          obtain ⟨pL, pM, rfl, rfl, dl, dm, q1⟩ := hcut
          rw [hL0.out] at dl
          obtain ⟨AL, cL, hnL, bL, zL⟩ := dl
          obtain ⟨AM, cM, hnM, bM, zM⟩ := dm
          have Q6 := Lib.hid (Q5.out.trans q1)
          have b0 := Bd0.out.on q1
          have z0 := Zd0.out.on q1
          have bB := BdB.out.on q1
          have zB := ZdB.out.on q1
          have bC := BdC.out.on q1
          obtain ⟨a, ca, A1, m1, e1, ha, hok, hat⟩ := zB.pick 0 (by rw [← HnB.out, hB2.out]; omega)
          injection e1 with e1 e2 e3
          subst e1 e3
          clear e2
          obtain ⟨b, cb, B1, m2, e4, hb, hok2, hbt⟩ := zM.pick 0 (by rw [← hnM, hM2.out]; omega)
          injection e4 with e4 e5 e6
          subst e4 e6
          clear e5
          have y1 := (hat _ (Q.refl _)).2.2.1
          rw [hBf.out] at y1
          have HBT := Lib.hid hbt
          have y2 := (hbt _ (Q.refl _)).2.2.1
          rw [hMf.out] at y2
          clear hat hbt hok hok2
          have y1 : wc.cell? ⟨a.block, a.off + 2, none⟩ = some (.bool true) := y1
          have y2 : wc.cell? ⟨b.block, b.off + 2, none⟩ = some (.bool true) := y2
          have xB : wc.cell? ⟨pB, 0, none⟩ = some (.slice (some a) 2 cB) := by have := bB.cell 0; rw [hB2.out] at this; exact this
          have xM : wc.cell? ⟨pM, 0, none⟩ = some (.slice (some b) 2 cM) := by have := bM.cell 0; rw [hM2.out] at this; exact this
          have xC : wc.cell? ⟨pC, 5, none⟩ = some (.int .i64 1) := by have := bC.cell 5; rw [hCb.out] at this; exact this
          obtain ⟨k0, k1, k2, k3, k4, k5⟩ : wc.cell? ⟨pL, 0, none⟩ = some (.slice AL nL cL) ∧ wc.cell? ⟨pL, 1, none⟩ = some (.int .i64 d0.size) ∧ wc.cell? ⟨pL, 2, none⟩ = some (.int .i64 d0.mo) ∧ wc.cell? ⟨pL, 3, none⟩ = some (.int .i64 d0.fuel) ∧ wc.cell? ⟨pL, 4, none⟩ = some (.bool d0.off) ∧ wc.cell? ⟨pL, 5, none⟩ = some (.int .i64 d0.bad) := ⟨bL.cell 0, bL.cell 1, bL.cell 2, bL.cell 3, bL.cell 4, bL.cell 5⟩
          obtain ⟨j0, j1, j2, j3, j4, j5⟩ : wc.cell? ⟨p0, 0, none⟩ = some (.slice A0 n0 c0) ∧ wc.cell? ⟨p0, 1, none⟩ = some (.int .i64 d0.size) ∧ wc.cell? ⟨p0, 2, none⟩ = some (.int .i64 d0.mo) ∧ wc.cell? ⟨p0, 3, none⟩ = some (.int .i64 d0.fuel) ∧ wc.cell? ⟨p0, 4, none⟩ = some (.bool d0.off) ∧ wc.cell? ⟨p0, 5, none⟩ = some (.int .i64 d0.bad) := ⟨b0.cell 0, b0.cell 1, b0.cell 2, b0.cell 3, b0.cell 4, b0.cell 5⟩
          have S1 := SM.out wc _ _ zL z0
          unfold dvV at S1
          have S1 := Lib.hid S1
          have Q7 := Lib.hid q1
          have XM : Hid (∀ x, Q wc x → x.cell? ⟨pM, 0, none⟩ = some (.slice (some b) 2 cM) ∧ x.cell? ⟨b.block, b.off + 2, none⟩ = some (.bool true)) := Lib.hid (fun x q => ⟨by have := (bM.on q).cell 0; rw [hM2.out] at this; exact this, by have := (HBT.out x q).2.2.1; rw [hMf.out] at this; exact this⟩)
          clear q1 HBT zL z0 zB zM b0 bB bC bL bM hnL hnM xM y2
          go_wp2_with fail
          refine S1.out.mono ?_
          rintro e w9 ⟨rfl, q9⟩
          obtain ⟨xM, y2⟩ := XM.out _ q9
          go_wp2_with fail
          go_ret
          exact ⟨rfl, Q6.out.trans q9⟩
end Go.Proofs.Yteoondmakdghhaa

