/-
  Proved: whatever fuel and acts ZoneFuels is called with, it returns true and leaves what it was given as it was. No condition.
-/
import Derived.Test.YteoondmakdghhaaNn
namespace Go.Proofs.Yteoondmakdghhaa.zoneFuels
set_option maxRecDepth 100000
open Go.ChangeShapes Go.WideShapes Go.ChangeAt Go.RowKit
open Go.ChangeMaps (open_string shut_string)
set_option linter.unusedVariables false
set_option linter.unusedSimpArgs false

theorem fl_new : newD 4 9 4 = (⟨[noZn, noZn, noZn, noZn], 9, 4, -1, false, 0⟩, 0) := rfl
theorem fl_may1 : mayD ⟨[noZn, noZn, noZn, noZn], 9, 4, -1, false, 0⟩ = true := by decide
theorem fl_may (n : Nat) : mayD ⟨[noZn, noZn, noZn, noZn], 9, 4, (n : Int), false, 0⟩ = true := by
  obtain ⟨h1, h2, h3, h4, h5, h6, h7, h8, h9⟩ := mayD_iff.1 fl_may1
  exact mayD_iff.2 ⟨h1, h2, h3, h4, h5, by show (-1 : Int) ≤ (n : Int); omega, h7, h8, h9⟩
theorem fl_fuel (n : Nat) : fuelD ⟨[noZn, noZn, noZn, noZn], 9, 4, -1, false, 0⟩ n = (⟨[noZn, noZn, noZn, noZn], 9, 4, (n : Int), false, 0⟩, 0) := by
  unfold fuelD
  rw [if_neg (by rw [fl_may1]; rintro (h | h); simp at h; omega)]
/-- What an act comes to, with fuel. -/
inductive FuC (d : Dv) (a : Ac) (n : Nat) : Dv × Nat → Prop
  | no (e : Nat) (h : e = 12 ∨ e = 8) (x : Dv) (hx : x = refD d) : FuC d a n (x, e)
  | yes (x : Dv) (m : Nat) (hm : n = needA a + m) (may : mayD x = true) (hf : x.fuel = (m : Int)) (ho : x.off = false) (hb : x.bad = d.bad) : FuC d a n (x, 0)
  | off (x : Dv) (hn : n < needA a) (may : mayD x = true) (hf : x.fuel = 0) (ho : x.off = true) (hb : x.bad = d.bad) : FuC d a n (x, 10)
theorem fu_c {d : Dv} {n : Nat} (hf : d.fuel = (n : Int)) (ho : d.off = false) (hm : mayD d = true) (a : Ac) : FuC d a n (actD d a) := by
  have h1 := act_fuel (by omega) ho hm a
  have h2 := act_c hm a
  generalize actD d a = r at h1 h2 ⊢
  obtain ⟨x, e⟩ := r
  simp only at h1
  rcases h1 with ⟨h3, h4⟩ | ⟨h3, h4, h5, h6⟩ | ⟨h3, h4, h5, h6⟩
  · exact .no e h3 x h4
  · subst h4
    cases h2 with
    | no e' h => omega
    | yes x e' h may len mo sz bad => exact .yes x (n - needA a) (by omega) may (by rw [h5, hf]; omega) h6 bad
  · subst h4
    cases h2 with
    | no e' h => omega
    | yes x e' h may len mo sz bad => exact .off x (by omega) may h5 h6 bad
set_option maxHeartbeats 16000000 in
set_option maxRecDepth 100000 in
theorem walk (f0 : Int) (l : List Ac) (v : Value) (w : World) (hf0 : (Lit.int .u8 f0).wf = true) (ht : Acs w w.heap.size v l) (hl : l.length ≤ maxLen) : Calls Try.prog 7 #[.int .u8 f0, v] w fun e w' => e = .returned (.bool true) ∧ Q w w' := by
  obtain ⟨f, rfl, hf⟩ := wfu8 hf0
  have ht2 := ht
  obtain ⟨AL, cL, rfl, -⟩ := ht2
  have HT : Hid (∀ i (hi : i < l.length), ∃ (a : Addr) (c : Nat), Value.slice AL l.length cL = .slice (some a) l.length c ∧ okA l[i] ∧ ∀ d, Q w d → d.cell? (a.add (i * 4)) = some (.int .u8 (l[i].kind : Nat)) ∧ d.cell? ⟨(a.add (i * 4)).block, (a.add (i * 4)).off + 1, none⟩ = some (.int .u8 (l[i].zone : Nat)) ∧ d.cell? ⟨(a.add (i * 4)).block, (a.add (i * 4)).off + 2, none⟩ = some (.int .u8 (l[i].many : Nat)) ∧ d.cell? ⟨(a.add (i * 4)).block, (a.add (i * 4)).off + 3, none⟩ = some (.int .u8 (l[i].c : Nat))) := Lib.hid (fun i hi => ht.pick i hi)
  obtain ⟨N0, hN0⟩ : ∃ n, n = f % 20 := ⟨_, rfl⟩
  have hN20 : N0 < 20 := by omega
  have ef : (f : Int).tmod 20 = (N0 : Int) := by rw [show (20 : Int) = ((20 : Nat) : Int) by rfl, ← Int.ofNat_tmod, hN0]
  have ef2 : (f : Int) % 20 = (N0 : Int) := by omega
  have CN := Lib.hid (fun y => dev_c (d := ⟨[noZn, noZn, noZn, noZn], 9, 4, -1, false, 0⟩) (k := 0) (ki := 0) (n := 4) (newZ_any 4 9 4 y) fl_new rfl rfl)
  have sm0 : smD ⟨[noZn, noZn, noZn, noZn], 9, 4, -1, false, 0⟩ := may_sm fl_may1
  have CF := Lib.hid (fun (y : World) (v : Value) (h : Zns y y.heap.size v [noZn, noZn, noZn, noZn]) => dev_c (d := ⟨[noZn, noZn, noZn, noZn], 9, 4, (N0 : Int), false, 0⟩) (k := 0) (ki := 0) (n := 4) (fuelZ_any ⟨[noZn, noZn, noZn, noZn], 9, 4, -1, false, 0⟩ v N0 y sm0 h) (fl_fuel N0) rfl rfl)
  simp only [dvV] at CN CF
  have HM0 := Lib.hid (fl_may N0)
  obtain ⟨d0, hd0⟩ : ∃ d : Dv, d = ⟨[noZn, noZn, noZn, noZn], 9, 4, (N0 : Int), false, 0⟩ := ⟨_, rfl⟩
  have HD0 : Hid (mayD d0 = true ∧ d0.fuel = (N0 : Int) ∧ d0.off = false ∧ d0.bad = 0 ∧ d0.zs = [noZn, noZn, noZn, noZn] ∧ d0.size = 9 ∧ d0.mo = 4) := Lib.hid (by rw [hd0]; exact ⟨HM0.out, rfl, rfl, rfl, rfl, rfl, rfl⟩)
  obtain ⟨z4, hz4⟩ : ∃ z, z = [noZn, noZn, noZn, noZn] := ⟨_, rfl⟩
  rw [← hz4] at CN CF HD0
  have HZ4 : Hid (z4.length = 4) := Lib.hid (by rw [hz4]; rfl)
  clear sm0 hd0 HM0 hz4 hN0 hf0 ht
  go_enter Try.func7, Try.ntmps7
  go_wp2_with fail
  refine (CN.out _).mono ?_
  rintro e w1 ⟨A0, c0, rfl, hz1, d1⟩
  have bn := Bx.new w1 24 #[.slice A0 4 c0, .int .i64 9, .int .i64 4, .int .i64 (-1), .bool false, .int .i64 0]
  have qn := (Q.refl w1).alloc (.cells #[.slice A0 4 c0, .int .i64 9, .int .i64 4, .int .i64 (-1), .bool false, .int .i64 0] 24)
  have hzn := hz1.on qn
  have hqn := d1.trans qn
  obtain ⟨p5, hp5⟩ : ∃ p, p = w1.heap.size := ⟨_, rfl⟩
  have hp5' : w.heap.size ≤ p5 := by rw [hp5]; exact d1.size
  obtain ⟨W2, hW2⟩ : ∃ z, z = w1.alloc (.cells #[.slice A0 4 c0, .int .i64 9, .int .i64 4, .int .i64 (-1), .bool false, .int .i64 0] 24) := ⟨_, rfl⟩
  rw [← hp5, ← hW2] at bn
  rw [← hW2] at hzn hqn
  go_upto_region 2 with fail
  rw [← hp5, ← hW2]
  clear hp5 hW2 hz1 d1 qn
  obtain ⟨x0, x1, x2, x3, x4, x5⟩ : W2.cell? ⟨p5, 0, none⟩ = some (.slice A0 4 c0) ∧ W2.cell? ⟨p5, 1, none⟩ = some (.int .i64 9) ∧ W2.cell? ⟨p5, 2, none⟩ = some (.int .i64 4) ∧ W2.cell? ⟨p5, 3, none⟩ = some (.int .i64 (-1)) ∧ W2.cell? ⟨p5, 4, none⟩ = some (.bool false) ∧ W2.cell? ⟨p5, 5, none⟩ = some (.int .i64 0) := ⟨bn.cell 0, bn.cell 1, bn.cell 2, bn.cell 3, bn.cell 4, bn.cell 5⟩
  have C1 := Lib.hid (CF.out _ _ hzn)
  have QN := Lib.hid hqn
  have BN := Lib.hid bn
  have HP5 := Lib.hid hp5'
  clear hzn hqn bn CF CN hp5'
  go_wp2_with fail
  refine (C1.out).mono ?_
  rintro e w3 ⟨A1, c1, rfl, hz3, d3⟩
  clear x0 x1 x2 x3 x4 x5
  have b3 := BN.out.on d3
  have q3 := QN.out.trans d3
  have HZ3 := Lib.hid hz3
  clear hz3 d3
  obtain ⟨x0, x1, x2, x3, x4, x5⟩ : w3.cell? ⟨p5, 0, none⟩ = some (.slice A0 4 c0) ∧ w3.cell? ⟨p5, 1, none⟩ = some (.int .i64 9) ∧ w3.cell? ⟨p5, 2, none⟩ = some (.int .i64 4) ∧ w3.cell? ⟨p5, 3, none⟩ = some (.int .i64 (-1)) ∧ w3.cell? ⟨p5, 4, none⟩ = some (.bool false) ∧ w3.cell? ⟨p5, 5, none⟩ = some (.int .i64 0) := ⟨b3.cell 0, b3.cell 1, b3.cell 2, b3.cell 3, b3.cell 4, b3.cell 5⟩
  have l0 := b3.frozen 0
  have l1 := b3.frozen 1
  have l2 := b3.frozen 2
  have l3 := b3.frozen 3
  have l4 := b3.frozen 4
  have l5 := b3.frozen 5
  go_upto_region 4 with fail
  clear x0 x1 x2 x3 x4 x5 l0 l1 l2 l3 l4 l5
  have c_ := ((((((b3.set 0 (.slice A1 4 c1)).set 1 (.int .i64 9)).set 2 (.int .i64 4)).set 3 (.int .i64 (N0 : Int))).set 4 (.bool false)).set 5 (.int .i64 0))
  have q_ : Q w ((((((w3.setCell ⟨p5, 0, none⟩ (.slice A1 4 c1)).setCell ⟨p5, 1, none⟩ (.int .i64 9)).setCell ⟨p5, 2, none⟩ (.int .i64 4)).setCell ⟨p5, 3, none⟩ (.int .i64 (N0 : Int))).setCell ⟨p5, 4, none⟩ (.bool false)).setCell ⟨p5, 5, none⟩ (.int .i64 0)) := (Q.set (Q.set (Q.set (Q.set (Q.set (Q.set q3 HP5.out _) HP5.out _) HP5.out _) HP5.out _) HP5.out _) HP5.out _)
  have k_ : ∀ j, j ≠ p5 → ((((((w3.setCell ⟨p5, 0, none⟩ (.slice A1 4 c1)).setCell ⟨p5, 1, none⟩ (.int .i64 9)).setCell ⟨p5, 2, none⟩ (.int .i64 4)).setCell ⟨p5, 3, none⟩ (.int .i64 (N0 : Int))).setCell ⟨p5, 4, none⟩ (.bool false)).setCell ⟨p5, 5, none⟩ (.int .i64 0)).heap[j]? = w3.heap[j]? := fun j hne => (heap_set _ _ _ _ hne).trans ( (heap_set _ _ _ _ hne).trans ( (heap_set _ _ _ _ hne).trans ( (heap_set _ _ _ _ hne).trans ( (heap_set _ _ _ _ hne).trans ( heap_set _ _ _ _ hne)))))
  have s_ : w3.heap.size ≤ ((((((w3.setCell ⟨p5, 0, none⟩ (.slice A1 4 c1)).setCell ⟨p5, 1, none⟩ (.int .i64 9)).setCell ⟨p5, 2, none⟩ (.int .i64 4)).setCell ⟨p5, 3, none⟩ (.int .i64 (N0 : Int))).setCell ⟨p5, 4, none⟩ (.bool false)).setCell ⟨p5, 5, none⟩ (.int .i64 0)).heap.size := by simp
  obtain ⟨W4, hW4⟩ : ∃ z, z = ((((((w3.setCell ⟨p5, 0, none⟩ (.slice A1 4 c1)).setCell ⟨p5, 1, none⟩ (.int .i64 9)).setCell ⟨p5, 2, none⟩ (.int .i64 4)).setCell ⟨p5, 3, none⟩ (.int .i64 (N0 : Int))).setCell ⟨p5, 4, none⟩ (.bool false)).setCell ⟨p5, 5, none⟩ (.int .i64 0)) := ⟨_, rfl⟩
  rw [← hW4] at c_ q_ k_ s_ ⊢
  clear hW4
  simp only [List.setIfInBounds_toArray, List.set_cons_zero, List.set_cons_succ] at c_
  have CW4 : Hid (Bx W4 (p5) 24 #[.slice A1 4 c1, .int .i64 9, .int .i64 4, .int .i64 (N0 : Int), .bool false, .int .i64 0]) := Lib.hid c_
  have QW4 := Lib.hid q_
  have KW4 := Lib.hid k_
  have SW4 := Lib.hid s_
  clear c_ q_ k_ s_
  have HB3 := Lib.hid b3
  have HZW : Hid (Zns W4 W4.heap.size (.slice A1 4 c1) z4) := Lib.hid (Zns.off HZ3.out HB3.out KW4.out SW4.out)
  have HDB : Hid (∃ A c n, n = d0.zs.length ∧ Bx W4 p5 24 #[.slice A n c, .int .i64 d0.size, .int .i64 d0.mo, .int .i64 d0.fuel, .bool d0.off, .int .i64 d0.bad] ∧ Zns W4 W4.heap.size (.slice A n c) d0.zs) := Lib.hid (by
    obtain ⟨h1, h2, h3, h4, h5, h6, h7⟩ := HD0.out
    refine ⟨A1, c1, 4, by rw [h5, HZ4.out], ?_, by rw [h5]; exact HZW.out⟩
    rw [h2, h3, h4, h6, h7]
    exact CW4.out)
  clear b3 q3 HZ3 HB3
  have AW := Lib.hid (fun y => awake13_any y)
  have hll : l.length ≤ maxLen := hl
  unfold maxLen at hl hll
  go_wp2_with fail
  go_loopw [7, 9] (fun M I wr => ∃ (i n : Nat) (d : Dv), i ≤ l.length ∧ i ≤ 30 ∧ I = .int .i64 i ∧ M = .int .i64 n ∧ n < 20 ∧ Hid (mayD d = true ∧ d.fuel = (n : Int) ∧ d.off = false ∧ d.bad ≤ (i : Int)) ∧ Hid (∃ A c n5, n5 = d.zs.length ∧ Bx wr p5 24 #[.slice A n5 c, .int .i64 d.size, .int .i64 d.mo, .int .i64 d.fuel, .bool d.off, .int .i64 d.bad] ∧ Zns wr wr.heap.size (.slice A n5 c) d.zs) ∧ Hid (Q w wr)) (fun _ I _ => l.length - (intOf I).toNat)
  case atStart => exact ⟨0, N0, d0, Nat.zero_le _, Nat.zero_le _, rfl, rfl, hN20, Lib.hid ⟨HD0.out.1, HD0.out.2.1, HD0.out.2.2.1, by have := HD0.out.2.2.2.1; omega⟩, HDB, QW4⟩
  case round =>
    obtain ⟨i, n, d, hil, hi30, rfl, rfl, hn20, HM, HB, HQ⟩ := hrel
    obtain ⟨W3, hW3⟩ : ∃ z, z = wr := ⟨_, rfl⟩
    subst hW3
    by_cases hlt : i < l.length ∧ i < 30
    · obtain ⟨hlt1, hlt2⟩ := hlt
      have hil1 : (i : Int) < (l.length : Int) := by omega
      have hil2 : (i : Int) < 30 := by omega
      obtain ⟨a, cA, eA, hokA, hat⟩ := HT.out i hlt1
      injection eA with eA1 eA2 eA3
      subst eA1
      have HAT := Lib.hid hat
      have HFUQ := Lib.hid (fu_c HM.out.2.1 HM.out.2.2.1 HM.out.1 l[i])
      have hdo := Lib.hid (fun (y : World) (u : Value) (h : Zns y y.heap.size u d.zs) => do_any d u l[i] y (may_sm HM.out.1) (by have h1 := HM.out; have h2 := (mayD_iff.1 HM.out.1); refine ⟨⟨?_, ?_⟩, ⟨?_, ?_⟩⟩ <;> omega) hokA h)
      have HNE : Hid (needA l[i] = if l[i].kind % 5 < 2 then 1 + l[i].many % 4 else 1) := Lib.hid rfl
      obtain ⟨⟨kind, zone, many, c⟩, hy⟩ : ∃ y, y = l[i] := ⟨_, rfl⟩
      rw [← hy] at HAT HFUQ hdo HNE
      clear hat hokA hy eA2 eA3
      obtain ⟨r, hr⟩ : ∃ r, r = actD d ⟨kind, zone, many, c⟩ := ⟨_, rfl⟩
      rw [← hr] at HFUQ hdo
      clear hr
      obtain ⟨need, hneed⟩ : ∃ m, m = needA ⟨kind, zone, many, c⟩ := ⟨_, rfl⟩
      have hk5 : kind % 5 < 5 := Nat.mod_lt _ (by omega)
      have HNE2 : Hid (need = if kind % 5 < 2 then 1 + many % 4 else 1) := Lib.hid (by rw [hneed]; exact HNE.out)
      obtain ⟨kk, hkk⟩ : ∃ m, m = kind % 5 := ⟨_, rfl⟩
      obtain ⟨mm, hmm⟩ : ∃ m, m = many % 4 := ⟨_, rfl⟩
      have ek : (kind : Int).tmod 5 = (kk : Int) := by rw [show (5 : Int) = ((5 : Nat) : Int) by rfl, ← Int.ofNat_tmod, hkk]
      have ek2 : (kind : Int) % 5 = (kk : Int) := by omega
      have em : (many : Int).tmod 4 = (mm : Int) := by rw [show (4 : Int) = ((4 : Nat) : Int) by rfl, ← Int.ofNat_tmod, hmm]
      have em2 : (many : Int) % 4 = (mm : Int) := by omega
      have hmm4 : mm < 4 := by omega
      have hkk5 : kk < 5 := by omega
      rw [← hkk, ← hmm] at HNE2
      have hneed4 : need ≤ 4 := by have := HNE2.out; split at this <;> omega
      have HND : Hid (need = needA ⟨kind, zone, many, c⟩) := Lib.hid hneed
      clear hkk hmm hneed HNE hk5
      obtain ⟨A5, c5, n5, hn5, b5, z5⟩ := HB.out
      obtain ⟨⟨x, e9⟩, hxe⟩ : ∃ q : Dv × Nat, q = r := ⟨_, rfl⟩
      subst hxe
      obtain ⟨n9, hn9⟩ : ∃ n, n = x.zs.length := ⟨_, rfl⟩
      have HN9 := Lib.hid hn9
      have HN5 := Lib.hid hn5
      have CD := Lib.hid (fun (y : World) (q : Q W3 y) => dev_c (d := x) (k := e9) (ki := (e9 : Int)) (n := n9) (hdo.out y _ (z5.on q)) rfl rfl hn9)
      unfold dvV acV at CD
      simp only at CD
      have B5 := Lib.hid b5
      have Z5 := Lib.hid z5
      have QW3 := Lib.hid HQ.out
      have KS : Hid (∀ y, Q W3 y → (fun (W : World) => W.cell? ⟨p5, 0, none⟩ = some (.slice A5 n5 c5) ∧ W.cell? ⟨p5, 1, none⟩ = some (.int .i64 d.size) ∧ W.cell? ⟨p5, 2, none⟩ = some (.int .i64 d.mo) ∧ W.cell? ⟨p5, 3, none⟩ = some (.int .i64 d.fuel) ∧ W.cell? ⟨p5, 4, none⟩ = some (.bool d.off) ∧ W.cell? ⟨p5, 5, none⟩ = some (.int .i64 d.bad) ∧ W.cell? (a.add (i * 4)) = some (.int .u8 (kind : Nat)) ∧ W.cell? ⟨(a.add (i * 4)).block, (a.add (i * 4)).off + 1, none⟩ = some (.int .u8 (zone : Nat)) ∧ W.cell? ⟨(a.add (i * 4)).block, (a.add (i * 4)).off + 2, none⟩ = some (.int .u8 (many : Nat)) ∧ W.cell? ⟨(a.add (i * 4)).block, (a.add (i * 4)).off + 3, none⟩ = some (.int .u8 (c : Nat))) y) := Lib.hid (fun y q => ⟨(B5.out.on q).cell 0, (B5.out.on q).cell 1, (B5.out.on q).cell 2, (B5.out.on q).cell 3, (B5.out.on q).cell 4, (B5.out.on q).cell 5, (HAT.out y (HQ.out.trans q)).1, (HAT.out y (HQ.out.trans q)).2.1, (HAT.out y (HQ.out.trans q)).2.2.1, (HAT.out y (HQ.out.trans q)).2.2.2⟩)
      obtain ⟨a0, a1, a2, a3⟩ := HAT.out W3 HQ.out
      clear hn9 hn5 b5 z5 hdo
      go_upto_if 52 with fail
      go_cut [10] from 52 to 60 (fun V wx => V = .int .i64 (need : Nat) ∧ W3 = wx)
      case first =>
        by_cases h2 : kk < 2
        · have h2' : (kk : Int) < 2 := by omega
          have en : (1 : Int) + (mm : Int) = (need : Int) := by have := HNE2.out; rw [if_pos h2] at this; omega
          clear h2
          go_wp2_with fail
          go_meet
          exact ⟨by first | rfl | simp [en], rfl⟩
        · have h2' : ¬ (kk : Int) < 2 := by omega
          have en : need = 1 := by have := HNE2.out; rw [if_neg h2] at this; exact this
          clear h2
          subst en
          go_wp2_with fail
          go_meet
          exact ⟨rfl, rfl⟩
      case rest =>
      obtain ⟨rfl, rfl⟩ := hcut
      clear a0 a1 a2 a3 ek ek2 em em2
      go_upto_region 12 with fail
      go_cut [11, 12] from 62 to 69 (fun VP VE wx => ∃ p A9 c9, VP = .pointer (some ⟨p, 0, none⟩) ∧ VE = .int .i64 (e9 : Nat) ∧ Hid (W3.heap.size ≤ p) ∧ Hid (Bx wx p 24 #[.slice A9 n9 c9, .int .i64 x.size, .int .i64 x.mo, .int .i64 x.fuel, .bool x.off, .int .i64 x.bad]) ∧ Hid (Zns wx wx.heap.size (.slice A9 n9 c9) x.zs) ∧ Hid (Q W3 wx))
      case first =>
        have q1 := (Q.refl W3).drew
        obtain ⟨wd, hwd⟩ : ∃ z, z = W3.drew := ⟨_, rfl⟩
        refine wp_region_held_drew (S := (fun (W : World) => W.cell? ⟨p5, 0, none⟩ = some (.slice A5 n5 c5) ∧ W.cell? ⟨p5, 1, none⟩ = some (.int .i64 d.size) ∧ W.cell? ⟨p5, 2, none⟩ = some (.int .i64 d.mo) ∧ W.cell? ⟨p5, 3, none⟩ = some (.int .i64 d.fuel) ∧ W.cell? ⟨p5, 4, none⟩ = some (.bool d.off) ∧ W.cell? ⟨p5, 5, none⟩ = some (.int .i64 d.bad) ∧ W.cell? (a.add (i * 4)) = some (.int .u8 (kind : Nat)) ∧ W.cell? ⟨(a.add (i * 4)).block, (a.add (i * 4)).off + 1, none⟩ = some (.int .u8 (zone : Nat)) ∧ W.cell? ⟨(a.add (i * 4)).block, (a.add (i * 4)).off + 2, none⟩ = some (.int .u8 (many : Nat)) ∧ W.cell? ⟨(a.add (i * 4)).block, (a.add (i * 4)).off + 3, none⟩ = some (.int .u8 (c : Nat)))) (by kernel_rfl) (KS.out _ q1) (fun hHeld => ?_)
        rw [← hwd] at q1 hHeld ⊢
        clear hwd
        have Rd := Lib.hid q1
        clear q1
        refine tkV 0 ?_
        refine tkV 1 ?_
        refine tkV 2 ?_
        refine tkB 3 (.pointer (some (a.add (i * 4)))) ?_
        refine tkV 4 ?_
        refine aR [5, 9] ?_
        refine AllReadyH.cons (o := _) rfl (fun K_ hK => ?_) (AllReadyH.cons (o := _) rfl (fun K_ hK => ?_) AllReadyH.nil)
        · skip
          go_simp
          go_at_call 20
          refine (CD.out _ Rd.out).mono ?_
          rintro e wx0 ⟨A9, c9, rfl, hz9, q⟩
          have Rx0 := Lib.hid (Rd.out.trans q)
          clear q
          have Z9 := Lib.hid hz9
          clear hz9
          clear hHeld
          refine hK.out _ _ (KS.out _ Rx0.out) (fun hHeld => ?_)
          clear hK K_
          refine pg ?_
          refine tkV 6 ?_
          refine tkV 7 ?_
          refine tkV 8 ?_
          refine aR [9] ?_
          refine AllReadyH.cons (o := _) rfl (fun K_ hK => ?_) AllReadyH.nil
          · skip
            go_simp
            have q := (Q.refl wx0).alloc (.cells #[.slice none 0 0, .int .i64 0, .int .i64 0, .int .i64 0, .bool false, .int .i64 0] 24)
            have b := Bx.new wx0 24 #[.slice none 0 0, .int .i64 0, .int .i64 0, .int .i64 0, .bool false, .int .i64 0]
            have hp9 := Rx0.out.size
            obtain ⟨wx1, hw⟩ : ∃ z, z = wx0.alloc (.cells #[.slice none 0 0, .int .i64 0, .int .i64 0, .int .i64 0, .bool false, .int .i64 0] 24) := ⟨_, rfl⟩
            rw [← hw] at q b
            rw [← hw]
            clear hw
            obtain ⟨p9, hp⟩ : ∃ z, z = wx0.heap.size := ⟨_, rfl⟩
            rw [← hp] at b hp9 ⊢
            clear hp
            have b7 := Lib.hid b
            have hp9 := Lib.hid hp9
            have Rx1 := Lib.hid (Rx0.out.trans q)
            have Z9 := Lib.hid (Z9.out.on q)
            clear q b
            clear hHeld
            refine hK.out _ _ (KS.out _ Rx1.out) (fun hHeld => ?_)
            clear hK K_
            refine pg ?_
            have hb9 := b7.out
            obtain ⟨f0, f1, f2, f3, f4, f5⟩ : wx1.cell? ⟨p9, 0, none⟩ = some (.slice none 0 0) ∧ wx1.cell? ⟨p9, 1, none⟩ = some (.int .i64 0) ∧ wx1.cell? ⟨p9, 2, none⟩ = some (.int .i64 0) ∧ wx1.cell? ⟨p9, 3, none⟩ = some (.int .i64 0) ∧ wx1.cell? ⟨p9, 4, none⟩ = some (.bool false) ∧ wx1.cell? ⟨p9, 5, none⟩ = some (.int .i64 0) := ⟨hb9.cell 0, hb9.cell 1, hb9.cell 2, hb9.cell 3, hb9.cell 4, hb9.cell 5⟩
            have g0 := hb9.frozen 0
            have g1 := hb9.frozen 1
            have g2 := hb9.frozen 2
            have g3 := hb9.frozen 3
            have g4 := hb9.frozen 4
            have g5 := hb9.frozen 5
            have b9c := ((((((hb9.set 0 (.slice A9 n9 c9)).set 1 (.int .i64 x.size)).set 2 (.int .i64 x.mo)).set 3 (.int .i64 x.fuel)).set 4 (.bool x.off)).set 5 (.int .i64 x.bad))
            have q9 : Q W3 ((((((wx1.setCell ⟨p9, 0, none⟩ (.slice A9 n9 c9)).setCell ⟨p9, 1, none⟩ (.int .i64 x.size)).setCell ⟨p9, 2, none⟩ (.int .i64 x.mo)).setCell ⟨p9, 3, none⟩ (.int .i64 x.fuel)).setCell ⟨p9, 4, none⟩ (.bool x.off)).setCell ⟨p9, 5, none⟩ (.int .i64 x.bad)) := (Q.set (Q.set (Q.set (Q.set (Q.set (Q.set Rx1.out hp9.out _) hp9.out _) hp9.out _) hp9.out _) hp9.out _) hp9.out _)
            have k9 : ∀ j, j ≠ p9 → ((((((wx1.setCell ⟨p9, 0, none⟩ (.slice A9 n9 c9)).setCell ⟨p9, 1, none⟩ (.int .i64 x.size)).setCell ⟨p9, 2, none⟩ (.int .i64 x.mo)).setCell ⟨p9, 3, none⟩ (.int .i64 x.fuel)).setCell ⟨p9, 4, none⟩ (.bool x.off)).setCell ⟨p9, 5, none⟩ (.int .i64 x.bad)).heap[j]? = wx1.heap[j]? := fun j hne => (heap_set _ _ _ _ hne).trans ( (heap_set _ _ _ _ hne).trans ( (heap_set _ _ _ _ hne).trans ( (heap_set _ _ _ _ hne).trans ( (heap_set _ _ _ _ hne).trans ( heap_set _ _ _ _ hne)))))
            have s9 : wx1.heap.size ≤ ((((((wx1.setCell ⟨p9, 0, none⟩ (.slice A9 n9 c9)).setCell ⟨p9, 1, none⟩ (.int .i64 x.size)).setCell ⟨p9, 2, none⟩ (.int .i64 x.mo)).setCell ⟨p9, 3, none⟩ (.int .i64 x.fuel)).setCell ⟨p9, 4, none⟩ (.bool x.off)).setCell ⟨p9, 5, none⟩ (.int .i64 x.bad)).heap.size := by simp
            obtain ⟨we, hwe⟩ : ∃ z, z = ((((((wx1.setCell ⟨p9, 0, none⟩ (.slice A9 n9 c9)).setCell ⟨p9, 1, none⟩ (.int .i64 x.size)).setCell ⟨p9, 2, none⟩ (.int .i64 x.mo)).setCell ⟨p9, 3, none⟩ (.int .i64 x.fuel)).setCell ⟨p9, 4, none⟩ (.bool x.off)).setCell ⟨p9, 5, none⟩ (.int .i64 x.bad)) := ⟨_, rfl⟩
            rw [← hwe] at q9 b9c k9 s9
            simp only [List.setIfInBounds_toArray, List.set_cons_zero, List.set_cons_succ] at b9c
            have Q9 := Lib.hid q9
            have B9 := Lib.hid b9c
            have K9 := Lib.hid k9
            have S9 := Lib.hid s9
            clear q9 b9c k9 s9
            refine aR [10] ?_
            refine AllReadyH.cons (o := _) rfl (fun K_ hK => ?_) AllReadyH.nil
            go_simp
            rw [← hwe]
            clear hwe f0 f1 f2 f3 f4 f5 g0 g1 g2 g3 g4 g5 hb9
            clear hHeld
            refine hK.out _ _ (KS.out _ Q9.out) (fun hHeld => ?_)
            clear hK K_
            refine pg ?_
            refine tkV 11 ?_
            refine wpAnyH_done (by kernel_rfl) ?_ _
            go_wp2_with fail
            go_meet
            exact ⟨p9, A9, c9, rfl, rfl, hp9, B9, Lib.hid (Zns.off Z9.out b7.out K9.out S9.out), Q9⟩
        · skip
          go_simp
          have q := (Q.refl wd).alloc (.cells #[.slice none 0 0, .int .i64 0, .int .i64 0, .int .i64 0, .bool false, .int .i64 0] 24)
          have b := Bx.new wd 24 #[.slice none 0 0, .int .i64 0, .int .i64 0, .int .i64 0, .bool false, .int .i64 0]
          have hp9 := Rd.out.size
          obtain ⟨wx0, hw⟩ : ∃ z, z = wd.alloc (.cells #[.slice none 0 0, .int .i64 0, .int .i64 0, .int .i64 0, .bool false, .int .i64 0] 24) := ⟨_, rfl⟩
          rw [← hw] at q b
          rw [← hw]
          clear hw
          obtain ⟨p9, hp⟩ : ∃ z, z = wd.heap.size := ⟨_, rfl⟩
          rw [← hp] at b hp9 ⊢
          clear hp
          have b7 := Lib.hid b
          have hp9 := Lib.hid hp9
          have Rx0 := Lib.hid (Rd.out.trans q)
          clear q b
          clear hHeld
          refine hK.out _ _ (KS.out _ Rx0.out) (fun hHeld => ?_)
          clear hK K_
          refine pg ?_
          refine aR [5] ?_
          refine AllReadyH.cons (o := _) rfl (fun K_ hK => ?_) AllReadyH.nil
          · skip
            go_simp
            go_at_call 20
            refine (CD.out _ Rx0.out).mono ?_
            rintro e wx1 ⟨A9, c9, rfl, hz9, q⟩
            have Rx1 := Lib.hid (Rx0.out.trans q)
            have b7 := Lib.hid (b7.out.on q)
            clear q
            have Z9 := Lib.hid hz9
            clear hz9
            clear hHeld
            refine hK.out _ _ (KS.out _ Rx1.out) (fun hHeld => ?_)
            clear hK K_
            refine pg ?_
            refine tkV 6 ?_
            refine tkV 7 ?_
            refine tkV 8 ?_
            have hb9 := b7.out
            obtain ⟨f0, f1, f2, f3, f4, f5⟩ : wx1.cell? ⟨p9, 0, none⟩ = some (.slice none 0 0) ∧ wx1.cell? ⟨p9, 1, none⟩ = some (.int .i64 0) ∧ wx1.cell? ⟨p9, 2, none⟩ = some (.int .i64 0) ∧ wx1.cell? ⟨p9, 3, none⟩ = some (.int .i64 0) ∧ wx1.cell? ⟨p9, 4, none⟩ = some (.bool false) ∧ wx1.cell? ⟨p9, 5, none⟩ = some (.int .i64 0) := ⟨hb9.cell 0, hb9.cell 1, hb9.cell 2, hb9.cell 3, hb9.cell 4, hb9.cell 5⟩
            have g0 := hb9.frozen 0
            have g1 := hb9.frozen 1
            have g2 := hb9.frozen 2
            have g3 := hb9.frozen 3
            have g4 := hb9.frozen 4
            have g5 := hb9.frozen 5
            have b9c := ((((((hb9.set 0 (.slice A9 n9 c9)).set 1 (.int .i64 x.size)).set 2 (.int .i64 x.mo)).set 3 (.int .i64 x.fuel)).set 4 (.bool x.off)).set 5 (.int .i64 x.bad))
            have q9 : Q W3 ((((((wx1.setCell ⟨p9, 0, none⟩ (.slice A9 n9 c9)).setCell ⟨p9, 1, none⟩ (.int .i64 x.size)).setCell ⟨p9, 2, none⟩ (.int .i64 x.mo)).setCell ⟨p9, 3, none⟩ (.int .i64 x.fuel)).setCell ⟨p9, 4, none⟩ (.bool x.off)).setCell ⟨p9, 5, none⟩ (.int .i64 x.bad)) := (Q.set (Q.set (Q.set (Q.set (Q.set (Q.set Rx1.out hp9.out _) hp9.out _) hp9.out _) hp9.out _) hp9.out _) hp9.out _)
            have k9 : ∀ j, j ≠ p9 → ((((((wx1.setCell ⟨p9, 0, none⟩ (.slice A9 n9 c9)).setCell ⟨p9, 1, none⟩ (.int .i64 x.size)).setCell ⟨p9, 2, none⟩ (.int .i64 x.mo)).setCell ⟨p9, 3, none⟩ (.int .i64 x.fuel)).setCell ⟨p9, 4, none⟩ (.bool x.off)).setCell ⟨p9, 5, none⟩ (.int .i64 x.bad)).heap[j]? = wx1.heap[j]? := fun j hne => (heap_set _ _ _ _ hne).trans ( (heap_set _ _ _ _ hne).trans ( (heap_set _ _ _ _ hne).trans ( (heap_set _ _ _ _ hne).trans ( (heap_set _ _ _ _ hne).trans ( heap_set _ _ _ _ hne)))))
            have s9 : wx1.heap.size ≤ ((((((wx1.setCell ⟨p9, 0, none⟩ (.slice A9 n9 c9)).setCell ⟨p9, 1, none⟩ (.int .i64 x.size)).setCell ⟨p9, 2, none⟩ (.int .i64 x.mo)).setCell ⟨p9, 3, none⟩ (.int .i64 x.fuel)).setCell ⟨p9, 4, none⟩ (.bool x.off)).setCell ⟨p9, 5, none⟩ (.int .i64 x.bad)).heap.size := by simp
            obtain ⟨we, hwe⟩ : ∃ z, z = ((((((wx1.setCell ⟨p9, 0, none⟩ (.slice A9 n9 c9)).setCell ⟨p9, 1, none⟩ (.int .i64 x.size)).setCell ⟨p9, 2, none⟩ (.int .i64 x.mo)).setCell ⟨p9, 3, none⟩ (.int .i64 x.fuel)).setCell ⟨p9, 4, none⟩ (.bool x.off)).setCell ⟨p9, 5, none⟩ (.int .i64 x.bad)) := ⟨_, rfl⟩
            rw [← hwe] at q9 b9c k9 s9
            simp only [List.setIfInBounds_toArray, List.set_cons_zero, List.set_cons_succ] at b9c
            have Q9 := Lib.hid q9
            have B9 := Lib.hid b9c
            have K9 := Lib.hid k9
            have S9 := Lib.hid s9
            clear q9 b9c k9 s9
            refine aR [10] ?_
            refine AllReadyH.cons (o := _) rfl (fun K_ hK => ?_) AllReadyH.nil
            go_simp
            rw [← hwe]
            clear hwe f0 f1 f2 f3 f4 f5 g0 g1 g2 g3 g4 g5 hb9
            clear hHeld
            refine hK.out _ _ (KS.out _ Q9.out) (fun hHeld => ?_)
            clear hK K_
            refine pg ?_
            refine tkV 11 ?_
            refine wpAnyH_done (by kernel_rfl) ?_ _
            go_wp2_with fail
            go_meet
            exact ⟨p9, A9, c9, rfl, rfl, hp9, B9, Lib.hid (Zns.off Z9.out b7.out K9.out S9.out), Q9⟩
      case rest =>
      obtain ⟨p9, A9, c9, rfl, rfl, hp9, B9, Z9, Q9⟩ := hcut
      have QC := Lib.hid (QW3.out.trans Q9.out)
      have B5c := Lib.hid (B5.out.on Q9.out)
      have HMD := Lib.hid HM.out
      have hfu := HFUQ.out
      clear HFUQ CD KS
      cases hfu with
      | no _ h _ hx =>
        have HNX : Hid (mayD x = true ∧ x.fuel = (n : Int) ∧ x.off = false ∧ x.bad ≤ ((i + 1 : Nat) : Int)) := Lib.hid (by
          obtain ⟨h1, h2, h3, h4⟩ := HMD.out
          rw [hx]
          refine ⟨ref_may h1, h2, h3, ?_⟩
          show (if d.bad = 9223372036854775807 then 0 else d.bad + 1) ≤ ((i + 1 : Nat) : Int)
          split <;> omega)
        clear hx
        rcases h with rfl | rfl
        · obtain ⟨x0, x1, x2, x3, x4, x5⟩ : wc.cell? ⟨p9, 0, none⟩ = some (.slice A9 n9 c9) ∧ wc.cell? ⟨p9, 1, none⟩ = some (.int .i64 x.size) ∧ wc.cell? ⟨p9, 2, none⟩ = some (.int .i64 x.mo) ∧ wc.cell? ⟨p9, 3, none⟩ = some (.int .i64 x.fuel) ∧ wc.cell? ⟨p9, 4, none⟩ = some (.bool x.off) ∧ wc.cell? ⟨p9, 5, none⟩ = some (.int .i64 x.bad) := ⟨B9.out.cell 0, B9.out.cell 1, B9.out.cell 2, B9.out.cell 3, B9.out.cell 4, B9.out.cell 5⟩
          obtain ⟨y0, y1, y2, y3, y4, y5⟩ : wc.cell? ⟨p5, 0, none⟩ = some (.slice A5 n5 c5) ∧ wc.cell? ⟨p5, 1, none⟩ = some (.int .i64 d.size) ∧ wc.cell? ⟨p5, 2, none⟩ = some (.int .i64 d.mo) ∧ wc.cell? ⟨p5, 3, none⟩ = some (.int .i64 d.fuel) ∧ wc.cell? ⟨p5, 4, none⟩ = some (.bool d.off) ∧ wc.cell? ⟨p5, 5, none⟩ = some (.int .i64 d.bad) := ⟨B5c.out.cell 0, B5c.out.cell 1, B5c.out.cell 2, B5c.out.cell 3, B5c.out.cell 4, B5c.out.cell 5⟩
          have l0 := B5c.out.frozen 0
          have l1 := B5c.out.frozen 1
          have l2 := B5c.out.frozen 2
          have l3 := B5c.out.frozen 3
          have l4 := B5c.out.frozen 4
          have l5 := B5c.out.frozen 5
          have c_ := ((((((B5c.out.set 0 (.slice A9 n9 c9)).set 1 (.int .i64 x.size)).set 2 (.int .i64 x.mo)).set 3 (.int .i64 x.fuel)).set 4 (.bool x.off)).set 5 (.int .i64 x.bad))
          have q_ : Q w ((((((wc.setCell ⟨p5, 0, none⟩ (.slice A9 n9 c9)).setCell ⟨p5, 1, none⟩ (.int .i64 x.size)).setCell ⟨p5, 2, none⟩ (.int .i64 x.mo)).setCell ⟨p5, 3, none⟩ (.int .i64 x.fuel)).setCell ⟨p5, 4, none⟩ (.bool x.off)).setCell ⟨p5, 5, none⟩ (.int .i64 x.bad)) := (Q.set (Q.set (Q.set (Q.set (Q.set (Q.set QC.out HP5.out _) HP5.out _) HP5.out _) HP5.out _) HP5.out _) HP5.out _)
          have k_ : ∀ j, j ≠ p5 → ((((((wc.setCell ⟨p5, 0, none⟩ (.slice A9 n9 c9)).setCell ⟨p5, 1, none⟩ (.int .i64 x.size)).setCell ⟨p5, 2, none⟩ (.int .i64 x.mo)).setCell ⟨p5, 3, none⟩ (.int .i64 x.fuel)).setCell ⟨p5, 4, none⟩ (.bool x.off)).setCell ⟨p5, 5, none⟩ (.int .i64 x.bad)).heap[j]? = wc.heap[j]? := fun j hne => (heap_set _ _ _ _ hne).trans ( (heap_set _ _ _ _ hne).trans ( (heap_set _ _ _ _ hne).trans ( (heap_set _ _ _ _ hne).trans ( (heap_set _ _ _ _ hne).trans ( heap_set _ _ _ _ hne)))))
          have s_ : wc.heap.size ≤ ((((((wc.setCell ⟨p5, 0, none⟩ (.slice A9 n9 c9)).setCell ⟨p5, 1, none⟩ (.int .i64 x.size)).setCell ⟨p5, 2, none⟩ (.int .i64 x.mo)).setCell ⟨p5, 3, none⟩ (.int .i64 x.fuel)).setCell ⟨p5, 4, none⟩ (.bool x.off)).setCell ⟨p5, 5, none⟩ (.int .i64 x.bad)).heap.size := by simp
          simp only [List.setIfInBounds_toArray, List.set_cons_zero, List.set_cons_succ] at c_
          have C_ := Lib.hid c_
          have Q_ := Lib.hid q_
          have K_ := Lib.hid k_
          have S_ := Lib.hid s_
          clear c_ q_ k_ s_
          go_wp2_with fail
          go_roundw
          case rel => exact ⟨i + 1, n, x, by omega, by omega, by go_num, by first | rfl | go_num | simp [hnm], by omega, HNX, Lib.hid ⟨A9, c9, n9, HN9.out, C_.out, Zns.off Z9.out B5c.out K_.out S_.out⟩, Q_⟩
          case measure => simp [intOf]; omega
        · obtain ⟨x0, x1, x2, x3, x4, x5⟩ : wc.cell? ⟨p9, 0, none⟩ = some (.slice A9 n9 c9) ∧ wc.cell? ⟨p9, 1, none⟩ = some (.int .i64 x.size) ∧ wc.cell? ⟨p9, 2, none⟩ = some (.int .i64 x.mo) ∧ wc.cell? ⟨p9, 3, none⟩ = some (.int .i64 x.fuel) ∧ wc.cell? ⟨p9, 4, none⟩ = some (.bool x.off) ∧ wc.cell? ⟨p9, 5, none⟩ = some (.int .i64 x.bad) := ⟨B9.out.cell 0, B9.out.cell 1, B9.out.cell 2, B9.out.cell 3, B9.out.cell 4, B9.out.cell 5⟩
          obtain ⟨y0, y1, y2, y3, y4, y5⟩ : wc.cell? ⟨p5, 0, none⟩ = some (.slice A5 n5 c5) ∧ wc.cell? ⟨p5, 1, none⟩ = some (.int .i64 d.size) ∧ wc.cell? ⟨p5, 2, none⟩ = some (.int .i64 d.mo) ∧ wc.cell? ⟨p5, 3, none⟩ = some (.int .i64 d.fuel) ∧ wc.cell? ⟨p5, 4, none⟩ = some (.bool d.off) ∧ wc.cell? ⟨p5, 5, none⟩ = some (.int .i64 d.bad) := ⟨B5c.out.cell 0, B5c.out.cell 1, B5c.out.cell 2, B5c.out.cell 3, B5c.out.cell 4, B5c.out.cell 5⟩
          have l0 := B5c.out.frozen 0
          have l1 := B5c.out.frozen 1
          have l2 := B5c.out.frozen 2
          have l3 := B5c.out.frozen 3
          have l4 := B5c.out.frozen 4
          have l5 := B5c.out.frozen 5
          have c_ := ((((((B5c.out.set 0 (.slice A9 n9 c9)).set 1 (.int .i64 x.size)).set 2 (.int .i64 x.mo)).set 3 (.int .i64 x.fuel)).set 4 (.bool x.off)).set 5 (.int .i64 x.bad))
          have q_ : Q w ((((((wc.setCell ⟨p5, 0, none⟩ (.slice A9 n9 c9)).setCell ⟨p5, 1, none⟩ (.int .i64 x.size)).setCell ⟨p5, 2, none⟩ (.int .i64 x.mo)).setCell ⟨p5, 3, none⟩ (.int .i64 x.fuel)).setCell ⟨p5, 4, none⟩ (.bool x.off)).setCell ⟨p5, 5, none⟩ (.int .i64 x.bad)) := (Q.set (Q.set (Q.set (Q.set (Q.set (Q.set QC.out HP5.out _) HP5.out _) HP5.out _) HP5.out _) HP5.out _) HP5.out _)
          have k_ : ∀ j, j ≠ p5 → ((((((wc.setCell ⟨p5, 0, none⟩ (.slice A9 n9 c9)).setCell ⟨p5, 1, none⟩ (.int .i64 x.size)).setCell ⟨p5, 2, none⟩ (.int .i64 x.mo)).setCell ⟨p5, 3, none⟩ (.int .i64 x.fuel)).setCell ⟨p5, 4, none⟩ (.bool x.off)).setCell ⟨p5, 5, none⟩ (.int .i64 x.bad)).heap[j]? = wc.heap[j]? := fun j hne => (heap_set _ _ _ _ hne).trans ( (heap_set _ _ _ _ hne).trans ( (heap_set _ _ _ _ hne).trans ( (heap_set _ _ _ _ hne).trans ( (heap_set _ _ _ _ hne).trans ( heap_set _ _ _ _ hne)))))
          have s_ : wc.heap.size ≤ ((((((wc.setCell ⟨p5, 0, none⟩ (.slice A9 n9 c9)).setCell ⟨p5, 1, none⟩ (.int .i64 x.size)).setCell ⟨p5, 2, none⟩ (.int .i64 x.mo)).setCell ⟨p5, 3, none⟩ (.int .i64 x.fuel)).setCell ⟨p5, 4, none⟩ (.bool x.off)).setCell ⟨p5, 5, none⟩ (.int .i64 x.bad)).heap.size := by simp
          simp only [List.setIfInBounds_toArray, List.set_cons_zero, List.set_cons_succ] at c_
          have C_ := Lib.hid c_
          have Q_ := Lib.hid q_
          have K_ := Lib.hid k_
          have S_ := Lib.hid s_
          clear c_ q_ k_ s_
          go_wp2_with fail
          go_roundw
          case rel => exact ⟨i + 1, n, x, by omega, by omega, by go_num, by first | rfl | go_num | simp [hnm], by omega, HNX, Lib.hid ⟨A9, c9, n9, HN9.out, C_.out, Zns.off Z9.out B5c.out K_.out S_.out⟩, Q_⟩
          case measure => simp [intOf]; omega
      | yes _ m hm may hf ho hb =>
        have HNX : Hid (mayD x = true ∧ x.fuel = (m : Int) ∧ x.off = false ∧ x.bad ≤ ((i + 1 : Nat) : Int)) := Lib.hid ⟨may, hf, ho, by have := HMD.out.2.2.2; omega⟩
        have hnm : (n : Int) - (need : Int) = (m : Int) := by have := HND.out; omega
        have hle : (need : Int) ≤ (n : Int) := by have := HND.out; omega
        have hm20 : m < 20 := by omega
        clear may hf ho hb hm
        obtain ⟨x0, x1, x2, x3, x4, x5⟩ : wc.cell? ⟨p9, 0, none⟩ = some (.slice A9 n9 c9) ∧ wc.cell? ⟨p9, 1, none⟩ = some (.int .i64 x.size) ∧ wc.cell? ⟨p9, 2, none⟩ = some (.int .i64 x.mo) ∧ wc.cell? ⟨p9, 3, none⟩ = some (.int .i64 x.fuel) ∧ wc.cell? ⟨p9, 4, none⟩ = some (.bool x.off) ∧ wc.cell? ⟨p9, 5, none⟩ = some (.int .i64 x.bad) := ⟨B9.out.cell 0, B9.out.cell 1, B9.out.cell 2, B9.out.cell 3, B9.out.cell 4, B9.out.cell 5⟩
        obtain ⟨y0, y1, y2, y3, y4, y5⟩ : wc.cell? ⟨p5, 0, none⟩ = some (.slice A5 n5 c5) ∧ wc.cell? ⟨p5, 1, none⟩ = some (.int .i64 d.size) ∧ wc.cell? ⟨p5, 2, none⟩ = some (.int .i64 d.mo) ∧ wc.cell? ⟨p5, 3, none⟩ = some (.int .i64 d.fuel) ∧ wc.cell? ⟨p5, 4, none⟩ = some (.bool d.off) ∧ wc.cell? ⟨p5, 5, none⟩ = some (.int .i64 d.bad) := ⟨B5c.out.cell 0, B5c.out.cell 1, B5c.out.cell 2, B5c.out.cell 3, B5c.out.cell 4, B5c.out.cell 5⟩
        have l0 := B5c.out.frozen 0
        have l1 := B5c.out.frozen 1
        have l2 := B5c.out.frozen 2
        have l3 := B5c.out.frozen 3
        have l4 := B5c.out.frozen 4
        have l5 := B5c.out.frozen 5
        have c_ := ((((((B5c.out.set 0 (.slice A9 n9 c9)).set 1 (.int .i64 x.size)).set 2 (.int .i64 x.mo)).set 3 (.int .i64 x.fuel)).set 4 (.bool x.off)).set 5 (.int .i64 x.bad))
        have q_ : Q w ((((((wc.setCell ⟨p5, 0, none⟩ (.slice A9 n9 c9)).setCell ⟨p5, 1, none⟩ (.int .i64 x.size)).setCell ⟨p5, 2, none⟩ (.int .i64 x.mo)).setCell ⟨p5, 3, none⟩ (.int .i64 x.fuel)).setCell ⟨p5, 4, none⟩ (.bool x.off)).setCell ⟨p5, 5, none⟩ (.int .i64 x.bad)) := (Q.set (Q.set (Q.set (Q.set (Q.set (Q.set QC.out HP5.out _) HP5.out _) HP5.out _) HP5.out _) HP5.out _) HP5.out _)
        have k_ : ∀ j, j ≠ p5 → ((((((wc.setCell ⟨p5, 0, none⟩ (.slice A9 n9 c9)).setCell ⟨p5, 1, none⟩ (.int .i64 x.size)).setCell ⟨p5, 2, none⟩ (.int .i64 x.mo)).setCell ⟨p5, 3, none⟩ (.int .i64 x.fuel)).setCell ⟨p5, 4, none⟩ (.bool x.off)).setCell ⟨p5, 5, none⟩ (.int .i64 x.bad)).heap[j]? = wc.heap[j]? := fun j hne => (heap_set _ _ _ _ hne).trans ( (heap_set _ _ _ _ hne).trans ( (heap_set _ _ _ _ hne).trans ( (heap_set _ _ _ _ hne).trans ( (heap_set _ _ _ _ hne).trans ( heap_set _ _ _ _ hne)))))
        have s_ : wc.heap.size ≤ ((((((wc.setCell ⟨p5, 0, none⟩ (.slice A9 n9 c9)).setCell ⟨p5, 1, none⟩ (.int .i64 x.size)).setCell ⟨p5, 2, none⟩ (.int .i64 x.mo)).setCell ⟨p5, 3, none⟩ (.int .i64 x.fuel)).setCell ⟨p5, 4, none⟩ (.bool x.off)).setCell ⟨p5, 5, none⟩ (.int .i64 x.bad)).heap.size := by simp
        simp only [List.setIfInBounds_toArray, List.set_cons_zero, List.set_cons_succ] at c_
        have C_ := Lib.hid c_
        have Q_ := Lib.hid q_
        have K_ := Lib.hid k_
        have S_ := Lib.hid s_
        clear c_ q_ k_ s_
        go_wp2_with fail
        go_roundw
        case rel => exact ⟨i + 1, m, x, by omega, by omega, by go_num, by first | rfl | go_num | simp [hnm], by omega, HNX, Lib.hid ⟨A9, c9, n9, HN9.out, C_.out, Zns.off Z9.out B5c.out K_.out S_.out⟩, Q_⟩
        case measure => simp [intOf]; omega
      | off _ hn may hf ho hb =>
        have hle : ¬ (need : Int) ≤ (n : Int) := by have := HND.out; omega
        have smx := may_sm may
        have okx : okN x := by
          have := HMD.out.2.2.2
          unfold okN okI64
          have h7 := (mayD_iff.1 may).2.2.2.2.2.2.1
          refine ⟨⟨by omega, by omega⟩, ⟨by omega, by omega⟩⟩
        have hr1 : (readD x 0).2 = 10 := by
          unfold readD
          rw [if_neg (by rw [may]; simp), if_pos (by unfold hasZ; have := (mayD_iff.1 may).1; omega), if_pos ho]
        have hr2 : (readD (crashD x ⟨[], 0, 0⟩) 0).2 = 0 := by
          unfold readD
          rw [if_neg (by rw [crash_may may]; simp), if_pos (by unfold hasZ; rw [crash_len may]; have := (mayD_iff.1 may).1; omega), if_neg (by rw [(crash_off may _).1]; simp)]
        have R1 := Lib.hid (fun (y : World) (u : Value) (h : Zns y y.heap.size u x.zs) => readZ_any x u 0 y smx h)
        have R2 := Lib.hid (fun (y : World) (u : Value) (h : Zns y y.heap.size u (crashD x ⟨[], 0, 0⟩).zs) => readZ_any (crashD x ⟨[], 0, 0⟩) u 0 y (may_sm (crash_may may _)) h)
        have CC := Lib.hid (fun (y : World) (u : Value) (h : Zns y y.heap.size u x.zs) => crashZ_any x u ⟨[], 0, 0⟩ (.slice none 0 0) y smx h (Ints.nil _ _))
        rw [hr1] at R1
        rw [hr2] at R2
        obtain ⟨cx, hcx⟩ : ∃ y, y = crashD x ⟨[], 0, 0⟩ := ⟨_, rfl⟩
        rw [← hcx] at R2 CC
        unfold dvV at R1
        unfold dvV at CC
        simp only at R1 CC
        have HOF := Lib.hid ho
        have HFF := Lib.hid hf
        clear hr1 hr2 hcx smx okx may hf ho hb hn
        obtain ⟨x0, x1, x2, x3, x4, x5⟩ : wc.cell? ⟨p9, 0, none⟩ = some (.slice A9 n9 c9) ∧ wc.cell? ⟨p9, 1, none⟩ = some (.int .i64 x.size) ∧ wc.cell? ⟨p9, 2, none⟩ = some (.int .i64 x.mo) ∧ wc.cell? ⟨p9, 3, none⟩ = some (.int .i64 x.fuel) ∧ wc.cell? ⟨p9, 4, none⟩ = some (.bool x.off) ∧ wc.cell? ⟨p9, 5, none⟩ = some (.int .i64 x.bad) := ⟨B9.out.cell 0, B9.out.cell 1, B9.out.cell 2, B9.out.cell 3, B9.out.cell 4, B9.out.cell 5⟩
        have R1c := Lib.hid (R1.out wc _ Z9.out)
        go_wp2_with fail
        refine (R1c.out).mono ?_
        rintro e v1 ⟨u1, rfl, hu1, d1⟩
        clear x0 x1 x2 x3 x4 x5 hu1
        have D1 := Lib.hid d1
        clear d1
        obtain ⟨x0, x1, x2, x3, x4, x5⟩ : v1.cell? ⟨p9, 0, none⟩ = some (.slice A9 n9 c9) ∧ v1.cell? ⟨p9, 1, none⟩ = some (.int .i64 x.size) ∧ v1.cell? ⟨p9, 2, none⟩ = some (.int .i64 x.mo) ∧ v1.cell? ⟨p9, 3, none⟩ = some (.int .i64 x.fuel) ∧ v1.cell? ⟨p9, 4, none⟩ = some (.bool x.off) ∧ v1.cell? ⟨p9, 5, none⟩ = some (.int .i64 x.bad) := ⟨(B9.out.on D1.out).cell 0, (B9.out.on D1.out).cell 1, (B9.out.on D1.out).cell 2, (B9.out.on D1.out).cell 3, (B9.out.on D1.out).cell 4, (B9.out.on D1.out).cell 5⟩
        have CCc := Lib.hid (CC.out v1 _ (Z9.out.on D1.out))
        go_wp2_with fail
        refine (CCc.out).mono ?_
        rintro e v2 ⟨u2, rfl, hu2, d2⟩
        clear x0 x1 x2 x3 x4 x5
        have D2 := Lib.hid (D1.out.trans d2)
        have R2c := Lib.hid (R2.out v2 _ hu2)
        clear d2 hu2
        go_wp2_with fail
        refine (R2c.out).mono ?_
        rintro e v3 ⟨u3, rfl, hu3, d3⟩
        have D3 := Lib.hid (D2.out.trans d3)
        clear d3 hu3
        have x3 : v3.cell? ⟨p9, 3, none⟩ = some (.int .i64 0) := by have h := (B9.out.on D3.out).cell 3; rw [HFF.out] at h; exact h
        have x4 : v3.cell? ⟨p9, 4, none⟩ = some (.bool true) := by have h := (B9.out.on D3.out).cell 4; rw [HOF.out] at h; exact h
        go_wp2_with fail
        refine (AW.out _).mono ?_
        rintro e v4 ⟨rfl, d4⟩
        go_wp2
        go_ret
        exact ⟨rfl, (QC.out.trans D3.out).trans d4⟩
    · have HFI := Lib.hid HM.out.2.1
      obtain ⟨A5, c5, n5, -, b5, -⟩ := HB.out
      have x3 : W3.cell? ⟨p5, 3, none⟩ = some (.int .i64 n) := by have h := b5.cell 3; rw [HFI.out] at h; exact h
      have QX := Lib.hid HQ.out
      clear b5 HB HM HQ
      by_cases hlt1 : i < l.length
      · have hil1 : (i : Int) < (l.length : Int) := by omega
        have hil2 : ¬ (i : Int) < 30 := by omega
        go_wp2_with fail
        refine (AW.out _).mono ?_
        rintro e v4 ⟨rfl, d4⟩
        go_wp2
        go_ret
        exact ⟨rfl, QX.out.trans d4⟩
      · have hil1 : ¬ (i : Int) < (l.length : Int) := by omega
        go_wp2_with fail
        refine (AW.out _).mono ?_
        rintro e v4 ⟨rfl, d4⟩
        go_wp2
        go_ret
        exact ⟨rfl, QX.out.trans d4⟩

set_option maxRecDepth 100000 in
theorem lifted (os : Os) (started : os.Started) (H : Type) (enc : TypeId × Value → H) :
    ReturnsInHanded {} Try.checked os 7 .any (Rows.zoneFuelsSpec.pre6 enc Try.prog Try.f7 Rows.zoneFuelsRow.domain false) (Rows.zoneFuelsSpec.post enc Try.prog Try.f7 false true false false) := by
  refine returnsInHanded_of_change (C := Try.checked) own started (by kernel_rfl) Try.func7
    (ChangeSpec.witness6 (enc := enc) (C := Try.checked) false ⟨#[], #[.int .u8 0, .slice none 0 0], []⟩ 8 (by kernel_rfl) (by kernel_rfl) (by kernel_rfl) (by kernel_rfl)) ?_
  intro W base args ds gs before hval0 hW hcnd _
  have hval : ∀ (j : Nat) t v, Try.f7.params[j]? = some t → args[j]? = some v → Value.okWide Try.prog W .any base t v := hval0
  have hW' := hW
  obtain ⟨p, q, hA0, hV, rfl, hfz, hnd⟩ := hW
  have hA : DataW.TrodAll enc Try.prog W 0 (fun _ => true) true Try.f7.params.toList args.toList ds p := hA0
  rw [Try.params7] at hA hval
  obtain ⟨v0, vs0, d0, ds0, p0, q0, hargs, rfl, rfl, h0, r0⟩ := trodAll_cons hA
  obtain ⟨v1, vs1, d1, ds1, p1, q1, rfl, rfl, rfl, h1, r1⟩ := trodAll_cons r0
  obtain ⟨rfl, rfl, rfl⟩ := trodAll_nil r1
  obtain rfl : args = #[v0, v1] := by cases args; simp_all
  obtain ⟨rfl, rfl⟩ := trodVars_none hV
  clear hA0 hval0
  simp only [List.append_nil] at hW'
  have hlt : ∀ x ∈ p0 ++ p1, x.block < W.heap.size := fun x hx => by simpa using hW'.lt x (by simpa using hx)
  obtain ⟨a0, rfl, -, -, w0⟩ := open_int Try.underlying5 (hval 0 5 v0 rfl rfl) h0
  obtain ⟨l1, t1, z1⟩ := open_acs (hval 1 47 v1 rfl rfl) h1
  refine (walk a0 l1 v1 W w0 t1 z1).mono fun e W' ⟨he, bel⟩ => ?_
  subst he
  refine ⟨_, rfl, _, _, _, [], _, [], hW', trodAll_mk1 (shut_bool Try.underlying4 _), (trodAll_cons_mk (Below.trod laid (by kernel_rfl) (of_decide_eq_true (by kernel_rfl)) h0 bel (fun x hx => hlt x (by simp [hx]))) (trodAll_cons_mk (Below.trod laid (by kernel_rfl) (of_decide_eq_true (by kernel_rfl)) h1 bel (fun x hx => hlt x (by simp [hx]))) trodAll_mk0)), rfl, Below.frame bel _, fun h => by cases h⟩

theorem over : Rows.zoneFuelsRow.holds Try.pinned (OpenSpec.ofChange Rows.zoneFuelsSpec) :=
  OpenClaim.holds_of_wide 7 Try.f7 rfl rfl rfl rfl rfl rfl rfl ⟨rfl, rfl, rfl, rfl, rfl⟩ rfl rfl rfl rfl rfl (by kernel_rfl) Try.func7 (by kernel_rfl)
    (of_decide_eq_true (by kernel_rfl)) (by unfold Func.isWrapper; first | (rw [if_pos (by decide +kernel)]; kernel_rfl) | (rw [if_neg (by decide +kernel)]; exact ⟨rfl, rfl⟩))
    (fun os started H enc _ => lifted os started H enc)

theorem proved : Rows.ZoneFuelsSaid := over
#print axioms proved
end Go.Proofs.Yteoondmakdghhaa.zoneFuels
