/-
  Contract of the law's Do. How devices and acts that come in are opened.
-/
import Derived.Test.YteoondmakdghhaaNh
import Derived.Test.YteoondmakdghhaaNc
import Derived.Laws.ResultCell
namespace Go.Proofs.Yteoondmakdghhaa
set_option maxRecDepth 100000
open Go.ChangeShapes Go.WideShapes Go.ChangeAt Go.RowKit
set_option linter.unusedVariables false
set_option linter.unusedSimpArgs false
set_option maxRecDepth 100000
def acV (a : Ac) : Value := .agg #[.int .u8 (a.kind : Nat), .int .u8 (a.zone : Nat), .int .u8 (a.many : Nat), .int .u8 (a.c : Nat)]
def okA (a : Ac) : Prop := a.kind < 256 ∧ a.zone < 256 ∧ a.many < 256 ∧ a.c < 256
theorem sm_of {d : Dv} (h : d.zs.length ≤ 41 ∧ ∀ z ∈ d.zs, z.b.length ≤ 301) : smD d := ⟨Nat.le_trans h.1 (by decide), fun z hz => Nat.le_trans (h.2 z hz) (by decide)⟩
set_option maxHeartbeats 16000000 in
theorem do_any (d : Dv) (u : Value) (a : Ac) (w : World) (hd : smD d) (hn : okN d) (ha : okA a) (ht : Zns w w.heap.size u d.zs) :
    Calls Try.prog 20 #[dvV d u, acV a] w (DevC (actD d a) w) := by
  obtain ⟨kind, zone, many, c⟩ := a
  obtain ⟨h1, h2, h3, h4⟩ := ha
  simp only at h1 h2 h3 h4
  rw [acV]
  obtain ⟨A0, c0, rfl⟩ := ht.form
  obtain ⟨n0, hn0⟩ : ∃ n, n = d.zs.length := ⟨_, rfl⟩
  rw [← hn0] at ht ⊢
  have HT : Hid (∀ x, Q w x → Zns x x.heap.size (.slice A0 n0 c0) d.zs) := Lib.hid (fun x q => ht.on q)
  clear ht hn0
  obtain ⟨z, hz⟩ : ∃ z, z = zone % 5 := ⟨_, rfl⟩
  obtain ⟨m, hm⟩ : ∃ m, m = many % 4 := ⟨_, rfl⟩
  have hzi : (zone : Int) % 5 = (z : Int) := by omega
  have hmi : (many : Int) % 4 = (m : Int) := by omega
  have hzl : z < 5 := by omega
  have hml : m < 4 := by omega
  have D0 : Hid (kind % 5 < 2 → actD d ⟨kind, zone, many, c⟩ = appD d (z : Int) (octsB c (1 + m))) := Lib.hid (fun h => by unfold actD; rw [if_pos h, hz, hm])
  have D2 : Hid (kind % 5 = 2 → actD d ⟨kind, zone, many, c⟩ = finD d (z : Int)) := Lib.hid (fun h => by unfold actD; rw [if_neg (by simp only; omega), if_pos h, hz])
  have D3 : Hid (kind % 5 = 3 → actD d ⟨kind, zone, many, c⟩ = resD d (z : Int)) := Lib.hid (fun h => by unfold actD; rw [if_neg (by simp only; omega), if_neg (by simp only; omega), if_pos h, hz])
  have D4 : Hid (kind % 5 = 4 → actD d ⟨kind, zone, many, c⟩ = fluD d) := Lib.hid (fun h => by unfold actD; rw [if_neg (by simp only; omega), if_neg (by simp only; omega), if_neg (by simp only; omega)])
  clear hz hm
  obtain ⟨zs, size, mo, fuel, off, bad⟩ := d
  have HD := Lib.hid hd
  obtain ⟨K, hK⟩ : ∃ K, K = 1 + m := ⟨_, rfl⟩
  rw [← hK] at D0
  have C0 := Lib.hid (fun (x : World) => all_any c K x h4 (by omega) (by omega))
  have C1 := Lib.hid (fun (x : World) (q : Q w x) => appZ_any _ _ (z : Int) (octsB c K) x hd hn (by rw [octsB_size]; omega) (HT.out x q))
  have C2 := Lib.hid (fun (x : World) (q : Q w x) => finZ_any _ _ (z : Int) x hd hn (HT.out x q))
  have C3 := Lib.hid (fun (x : World) (q : Q w x) => resZ_any _ _ (z : Int) x hd hn (HT.out x q))
  have C4 := Lib.hid (fun (x : World) (q : Q w x) => fluZ_any _ _ x hd hn (HT.out x q))
  obtain ⟨OB, hOB⟩ : ∃ s, s = octsB c K := ⟨_, rfl⟩
  rw [← hOB] at C0 C1 D0
  rw [dvV] at C1 C2 C3 C4 ⊢
  simp only at C1 C2 C3 C4 ⊢
  clear hd hOB hn
  have bd := ((Bx.new w 24 #[.slice A0 n0 c0, .int .i64 size, .int .i64 mo, .int .i64 fuel, .bool off, .int .i64 bad]).alloc (.cells #[.int .u8 (kind : Nat), .int .u8 (zone : Nat), .int .u8 (many : Nat), .int .u8 (c : Nat)] 50)).alloc (.cells #[.slice none 0 0, .int .i64 0, .int .i64 0, .int .i64 0, .bool false, .int .i64 0] 24)
  have ba := (Bx.new (w.alloc (.cells #[.slice A0 n0 c0, .int .i64 size, .int .i64 mo, .int .i64 fuel, .bool off, .int .i64 bad] 24)) 50 #[.int .u8 (kind : Nat), .int .u8 (zone : Nat), .int .u8 (many : Nat), .int .u8 (c : Nat)]).alloc (.cells #[.slice none 0 0, .int .i64 0, .int .i64 0, .int .i64 0, .bool false, .int .i64 0] 24)
  have br := Bx.new ((w.alloc (.cells #[.slice A0 n0 c0, .int .i64 size, .int .i64 mo, .int .i64 fuel, .bool off, .int .i64 bad] 24)).alloc (.cells #[.int .u8 (kind : Nat), .int .u8 (zone : Nat), .int .u8 (many : Nat), .int .u8 (c : Nat)] 50)) 24 #[.slice none 0 0, .int .i64 0, .int .i64 0, .int .i64 0, .bool false, .int .i64 0]
  have q0 := (((Q.refl w).alloc (.cells #[.slice A0 n0 c0, .int .i64 size, .int .i64 mo, .int .i64 fuel, .bool off, .int .i64 bad] 24)).alloc (.cells #[.int .u8 (kind : Nat), .int .u8 (zone : Nat), .int .u8 (many : Nat), .int .u8 (c : Nat)] 50)).alloc (.cells #[.slice none 0 0, .int .i64 0, .int .i64 0, .int .i64 0, .bool false, .int .i64 0] 24)
  simp only [World.size_alloc] at ba br
  obtain ⟨W0, hW0⟩ : ∃ z, z = ((w.alloc (.cells #[.slice A0 n0 c0, .int .i64 size, .int .i64 mo, .int .i64 fuel, .bool off, .int .i64 bad] 24)).alloc (.cells #[.int .u8 (kind : Nat), .int .u8 (zone : Nat), .int .u8 (many : Nat), .int .u8 (c : Nat)] 50)).alloc (.cells #[.slice none 0 0, .int .i64 0, .int .i64 0, .int .i64 0, .bool false, .int .i64 0] 24) := ⟨_, rfl⟩
  rw [← hW0] at bd ba br q0
  have BR := Lib.hid br
  have Q0 := Lib.hid q0
  have hm1 : (1 : Int) + (m : Int) = (K : Int) := by omega
  have hm2 : IntKind.i64.wrap ((1 : Int) + (m : Int)) = (K : Int) := by rw [IntKind.wrap_i64] <;> omega
  have hm3 : (many : Int).tmod 4 = (m : Int) := by rw [show (4 : Int) = ((4 : Nat) : Int) by rfl, ← Int.ofNat_tmod]; omega
  have hm4 : IntKind.i64.wrap (m : Int) = (m : Int) := by rw [IntKind.wrap_i64] <;> omega
  have hm5 : IntKind.i64.wrap (K : Int) = (K : Int) := by rw [IntKind.wrap_i64] <;> omega
  clear hK
  obtain ⟨x0, x1, x2, x3, x4, x5⟩ : W0.cell? ⟨w.heap.size, 0, none⟩ = some (.slice A0 n0 c0) ∧ W0.cell? ⟨w.heap.size, 1, none⟩ = some (.int .i64 size) ∧ W0.cell? ⟨w.heap.size, 2, none⟩ = some (.int .i64 mo) ∧ W0.cell? ⟨w.heap.size, 3, none⟩ = some (.int .i64 fuel) ∧ W0.cell? ⟨w.heap.size, 4, none⟩ = some (.bool off) ∧ W0.cell? ⟨w.heap.size, 5, none⟩ = some (.int .i64 bad) := ⟨bd.cell 0, bd.cell 1, bd.cell 2, bd.cell 3, bd.cell 4, bd.cell 5⟩
  obtain ⟨y0, y1, y2, y3⟩ : W0.cell? ⟨w.heap.size + 1, 0, none⟩ = some (.int .u8 (kind : Nat)) ∧ W0.cell? ⟨w.heap.size + 1, 1, none⟩ = some (.int .u8 (zone : Nat)) ∧ W0.cell? ⟨w.heap.size + 1, 2, none⟩ = some (.int .u8 (many : Nat)) ∧ W0.cell? ⟨w.heap.size + 1, 3, none⟩ = some (.int .u8 (c : Nat)) := ⟨ba.cell 0, ba.cell 1, ba.cell 2, ba.cell 3⟩
  have HBD := Lib.hid bd
  have HBA := Lib.hid ba
  clear bd ba br q0
  go_enter Try.func20, Try.ntmps20
  go_upto_region 2 with fail
  rw [← hW0]
  clear hW0
  obtain ⟨k, hk⟩ : ∃ k, k = kind % 5 := ⟨_, rfl⟩
  have hkl : k < 5 := by omega
  match k, hkl, hk with
  | 2, _, hk => 
    have HA := Lib.hid (D2.out hk.symm)
    have hki : (kind : Int) % 5 = 2 := by omega
    clear hk D0 D2 D3 D4
    obtain ⟨r, hr⟩ : ∃ r, r = finD ⟨zs, size, mo, fuel, off, bad⟩ (z : Int) := ⟨_, rfl⟩
    rw [← hr] at C2 HA
    clear hr
    obtain ⟨⟨zs9, s9, m9, f9, o9, b9⟩, e9⟩ := r
    unfold DevC dvV at C2
    simp only at C2
    go_wp2_with fail
    refine (C2.out _ Q0.out).mono ?_
    rintro e w1 ⟨v9, rfl, hz9, d1⟩
    obtain ⟨A9, c9, rfl⟩ := hz9.form
    obtain ⟨n9, hn9⟩ : ∃ n, n = zs9.length := ⟨_, rfl⟩
    rw [← hn9] at hz9 ⊢
    have HZ9 := Lib.hid hz9
    clear hz9 hn9
    have b1 := BR.out.on d1
    have q1 := Q0.out.trans d1
    obtain ⟨g0, g1, g2, g3, g4, g5⟩ : w1.cell? ⟨w.heap.size + 1 + 1, 0, none⟩ = some (.slice none 0 0) ∧ w1.cell? ⟨w.heap.size + 1 + 1, 1, none⟩ = some (.int .i64 0) ∧ w1.cell? ⟨w.heap.size + 1 + 1, 2, none⟩ = some (.int .i64 0) ∧ w1.cell? ⟨w.heap.size + 1 + 1, 3, none⟩ = some (.int .i64 0) ∧ w1.cell? ⟨w.heap.size + 1 + 1, 4, none⟩ = some (.bool false) ∧ w1.cell? ⟨w.heap.size + 1 + 1, 5, none⟩ = some (.int .i64 0) := ⟨b1.cell 0, b1.cell 1, b1.cell 2, b1.cell 3, b1.cell 4, b1.cell 5⟩
    have l0 := b1.frozen 0
    have l1 := b1.frozen 1
    have l2 := b1.frozen 2
    have l3 := b1.frozen 3
    have l4 := b1.frozen 4
    have l5 := b1.frozen 5
    have hsz := b1.lt
    have hsz0 := q1.size
    have b2 := ((((((b1.set 0 (.slice A9 n9 c9)).set 1 (.int .i64 s9)).set 2 (.int .i64 m9)).set 3 (.int .i64 f9)).set 4 (.bool o9)).set 5 (.int .i64 b9))
    have q2 : Q w ((((((w1.setCell ⟨w.heap.size + 1 + 1, 0, none⟩ (.slice A9 n9 c9)).setCell ⟨w.heap.size + 1 + 1, 1, none⟩ (.int .i64 s9)).setCell ⟨w.heap.size + 1 + 1, 2, none⟩ (.int .i64 m9)).setCell ⟨w.heap.size + 1 + 1, 3, none⟩ (.int .i64 f9)).setCell ⟨w.heap.size + 1 + 1, 4, none⟩ (.bool o9)).setCell ⟨w.heap.size + 1 + 1, 5, none⟩ (.int .i64 b9)) := (Q.set (Q.set (Q.set (Q.set (Q.set (Q.set q1 (by omega) _) (by omega) _) (by omega) _) (by omega) _) (by omega) _) (by omega) _)
    have HZ2 : Hid (∀ x, Q w1 x → Zns x x.heap.size (.slice A9 n9 c9) zs9) := Lib.hid (fun x q => HZ9.out.on q)
    have hkk : ∀ j, j ≠ w.heap.size + 1 + 1 → (((((((w1.setCell ⟨w.heap.size + 1 + 1, 0, none⟩ (.slice A9 n9 c9)).setCell ⟨w.heap.size + 1 + 1, 1, none⟩ (.int .i64 s9)).setCell ⟨w.heap.size + 1 + 1, 2, none⟩ (.int .i64 m9)).setCell ⟨w.heap.size + 1 + 1, 3, none⟩ (.int .i64 f9)).setCell ⟨w.heap.size + 1 + 1, 4, none⟩ (.bool o9)).setCell ⟨w.heap.size + 1 + 1, 5, none⟩ (.int .i64 b9))).heap[j]? = w1.heap[j]? := fun j hj => (heap_set _ _ _ _ hj).trans ( (heap_set _ _ _ _ hj).trans ( (heap_set _ _ _ _ hj).trans ( (heap_set _ _ _ _ hj).trans ( (heap_set _ _ _ _ hj).trans (heap_set _ _ _ _ hj)))))
    have hzz := Zns.off HZ9.out b1 hkk (by simp)
    clear hkk
    obtain ⟨w9, hw9⟩ : ∃ z, z = ((((((w1.setCell ⟨w.heap.size + 1 + 1, 0, none⟩ (.slice A9 n9 c9)).setCell ⟨w.heap.size + 1 + 1, 1, none⟩ (.int .i64 s9)).setCell ⟨w.heap.size + 1 + 1, 2, none⟩ (.int .i64 m9)).setCell ⟨w.heap.size + 1 + 1, 3, none⟩ (.int .i64 f9)).setCell ⟨w.heap.size + 1 + 1, 4, none⟩ (.bool o9)).setCell ⟨w.heap.size + 1 + 1, 5, none⟩ (.int .i64 b9)) := ⟨_, rfl⟩
    rw [← hw9] at b2 q2 hzz
    simp only [List.setIfInBounds_toArray, List.set_cons_zero, List.set_cons_succ] at b2
    have B9 := Lib.hid b2
    have Q9 := Lib.hid q2
    have Z9 := Lib.hid hzz
    clear b2 q2 hzz q1 b1 hsz hsz0 d1
    go_wp2_with fail
    rw [← hw9]
    clear hw9
    obtain ⟨k0, k1, k2, k3, k4, k5⟩ : w9.cell? ⟨w.heap.size + 1 + 1, 0, none⟩ = some (.slice A9 n9 c9) ∧ w9.cell? ⟨w.heap.size + 1 + 1, 1, none⟩ = some (.int .i64 s9) ∧ w9.cell? ⟨w.heap.size + 1 + 1, 2, none⟩ = some (.int .i64 m9) ∧ w9.cell? ⟨w.heap.size + 1 + 1, 3, none⟩ = some (.int .i64 f9) ∧ w9.cell? ⟨w.heap.size + 1 + 1, 4, none⟩ = some (.bool o9) ∧ w9.cell? ⟨w.heap.size + 1 + 1, 5, none⟩ = some (.int .i64 b9) := ⟨B9.out.cell 0, B9.out.cell 1, B9.out.cell 2, B9.out.cell 3, B9.out.cell 4, B9.out.cell 5⟩
    (try simp only [Exit.inBlock, Exit.then])
    refine bodyPost_ret (v := .tuple #[.agg #[.slice A9 n9 c9, .int .i64 s9, .int .i64 m9, .int .i64 f9, .bool o9, .int .i64 b9], .int .i64 (e9 : Nat)]) ?_ rfl ⟨_, by rw [HA.out]; rfl, by rw [HA.out]; exact Z9.out, Q9.out⟩
    rw [results_cell_tmp rfl]
    go_simp
  | 3, _, hk => 
    have HA := Lib.hid (D3.out hk.symm)
    have hki : (kind : Int) % 5 = 3 := by omega
    clear hk D0 D2 D3 D4
    obtain ⟨r, hr⟩ : ∃ r, r = resD ⟨zs, size, mo, fuel, off, bad⟩ (z : Int) := ⟨_, rfl⟩
    rw [← hr] at C3 HA
    clear hr
    obtain ⟨⟨zs9, s9, m9, f9, o9, b9⟩, e9⟩ := r
    unfold DevC dvV at C3
    simp only at C3
    go_wp2_with fail
    refine (C3.out _ Q0.out).mono ?_
    rintro e w1 ⟨v9, rfl, hz9, d1⟩
    obtain ⟨A9, c9, rfl⟩ := hz9.form
    obtain ⟨n9, hn9⟩ : ∃ n, n = zs9.length := ⟨_, rfl⟩
    rw [← hn9] at hz9 ⊢
    have HZ9 := Lib.hid hz9
    clear hz9 hn9
    have b1 := BR.out.on d1
    have q1 := Q0.out.trans d1
    obtain ⟨g0, g1, g2, g3, g4, g5⟩ : w1.cell? ⟨w.heap.size + 1 + 1, 0, none⟩ = some (.slice none 0 0) ∧ w1.cell? ⟨w.heap.size + 1 + 1, 1, none⟩ = some (.int .i64 0) ∧ w1.cell? ⟨w.heap.size + 1 + 1, 2, none⟩ = some (.int .i64 0) ∧ w1.cell? ⟨w.heap.size + 1 + 1, 3, none⟩ = some (.int .i64 0) ∧ w1.cell? ⟨w.heap.size + 1 + 1, 4, none⟩ = some (.bool false) ∧ w1.cell? ⟨w.heap.size + 1 + 1, 5, none⟩ = some (.int .i64 0) := ⟨b1.cell 0, b1.cell 1, b1.cell 2, b1.cell 3, b1.cell 4, b1.cell 5⟩
    have l0 := b1.frozen 0
    have l1 := b1.frozen 1
    have l2 := b1.frozen 2
    have l3 := b1.frozen 3
    have l4 := b1.frozen 4
    have l5 := b1.frozen 5
    have hsz := b1.lt
    have hsz0 := q1.size
    have b2 := ((((((b1.set 0 (.slice A9 n9 c9)).set 1 (.int .i64 s9)).set 2 (.int .i64 m9)).set 3 (.int .i64 f9)).set 4 (.bool o9)).set 5 (.int .i64 b9))
    have q2 : Q w ((((((w1.setCell ⟨w.heap.size + 1 + 1, 0, none⟩ (.slice A9 n9 c9)).setCell ⟨w.heap.size + 1 + 1, 1, none⟩ (.int .i64 s9)).setCell ⟨w.heap.size + 1 + 1, 2, none⟩ (.int .i64 m9)).setCell ⟨w.heap.size + 1 + 1, 3, none⟩ (.int .i64 f9)).setCell ⟨w.heap.size + 1 + 1, 4, none⟩ (.bool o9)).setCell ⟨w.heap.size + 1 + 1, 5, none⟩ (.int .i64 b9)) := (Q.set (Q.set (Q.set (Q.set (Q.set (Q.set q1 (by omega) _) (by omega) _) (by omega) _) (by omega) _) (by omega) _) (by omega) _)
    have HZ2 : Hid (∀ x, Q w1 x → Zns x x.heap.size (.slice A9 n9 c9) zs9) := Lib.hid (fun x q => HZ9.out.on q)
    have hkk : ∀ j, j ≠ w.heap.size + 1 + 1 → (((((((w1.setCell ⟨w.heap.size + 1 + 1, 0, none⟩ (.slice A9 n9 c9)).setCell ⟨w.heap.size + 1 + 1, 1, none⟩ (.int .i64 s9)).setCell ⟨w.heap.size + 1 + 1, 2, none⟩ (.int .i64 m9)).setCell ⟨w.heap.size + 1 + 1, 3, none⟩ (.int .i64 f9)).setCell ⟨w.heap.size + 1 + 1, 4, none⟩ (.bool o9)).setCell ⟨w.heap.size + 1 + 1, 5, none⟩ (.int .i64 b9))).heap[j]? = w1.heap[j]? := fun j hj => (heap_set _ _ _ _ hj).trans ( (heap_set _ _ _ _ hj).trans ( (heap_set _ _ _ _ hj).trans ( (heap_set _ _ _ _ hj).trans ( (heap_set _ _ _ _ hj).trans (heap_set _ _ _ _ hj)))))
    have hzz := Zns.off HZ9.out b1 hkk (by simp)
    clear hkk
    obtain ⟨w9, hw9⟩ : ∃ z, z = ((((((w1.setCell ⟨w.heap.size + 1 + 1, 0, none⟩ (.slice A9 n9 c9)).setCell ⟨w.heap.size + 1 + 1, 1, none⟩ (.int .i64 s9)).setCell ⟨w.heap.size + 1 + 1, 2, none⟩ (.int .i64 m9)).setCell ⟨w.heap.size + 1 + 1, 3, none⟩ (.int .i64 f9)).setCell ⟨w.heap.size + 1 + 1, 4, none⟩ (.bool o9)).setCell ⟨w.heap.size + 1 + 1, 5, none⟩ (.int .i64 b9)) := ⟨_, rfl⟩
    rw [← hw9] at b2 q2 hzz
    simp only [List.setIfInBounds_toArray, List.set_cons_zero, List.set_cons_succ] at b2
    have B9 := Lib.hid b2
    have Q9 := Lib.hid q2
    have Z9 := Lib.hid hzz
    clear b2 q2 hzz q1 b1 hsz hsz0 d1
    go_wp2_with fail
    rw [← hw9]
    clear hw9
    obtain ⟨k0, k1, k2, k3, k4, k5⟩ : w9.cell? ⟨w.heap.size + 1 + 1, 0, none⟩ = some (.slice A9 n9 c9) ∧ w9.cell? ⟨w.heap.size + 1 + 1, 1, none⟩ = some (.int .i64 s9) ∧ w9.cell? ⟨w.heap.size + 1 + 1, 2, none⟩ = some (.int .i64 m9) ∧ w9.cell? ⟨w.heap.size + 1 + 1, 3, none⟩ = some (.int .i64 f9) ∧ w9.cell? ⟨w.heap.size + 1 + 1, 4, none⟩ = some (.bool o9) ∧ w9.cell? ⟨w.heap.size + 1 + 1, 5, none⟩ = some (.int .i64 b9) := ⟨B9.out.cell 0, B9.out.cell 1, B9.out.cell 2, B9.out.cell 3, B9.out.cell 4, B9.out.cell 5⟩
    (try simp only [Exit.inBlock, Exit.then])
    refine bodyPost_ret (v := .tuple #[.agg #[.slice A9 n9 c9, .int .i64 s9, .int .i64 m9, .int .i64 f9, .bool o9, .int .i64 b9], .int .i64 (e9 : Nat)]) ?_ rfl ⟨_, by rw [HA.out]; rfl, by rw [HA.out]; exact Z9.out, Q9.out⟩
    rw [results_cell_tmp rfl]
    go_simp
  | 4, _, hk => 
    have HA := Lib.hid (D4.out hk.symm)
    have hki : (kind : Int) % 5 = 4 := by omega
    clear hk D0 D2 D3 D4
    obtain ⟨r, hr⟩ : ∃ r, r = fluD ⟨zs, size, mo, fuel, off, bad⟩ := ⟨_, rfl⟩
    rw [← hr] at C4 HA
    clear hr
    obtain ⟨⟨zs9, s9, m9, f9, o9, b9⟩, e9⟩ := r
    unfold DevC dvV at C4
    simp only at C4
    go_wp2_with fail
    refine (C4.out _ Q0.out).mono ?_
    rintro e w1 ⟨v9, rfl, hz9, d1⟩
    obtain ⟨A9, c9, rfl⟩ := hz9.form
    obtain ⟨n9, hn9⟩ : ∃ n, n = zs9.length := ⟨_, rfl⟩
    rw [← hn9] at hz9 ⊢
    have HZ9 := Lib.hid hz9
    clear hz9 hn9
    have b1 := BR.out.on d1
    have q1 := Q0.out.trans d1
    obtain ⟨g0, g1, g2, g3, g4, g5⟩ : w1.cell? ⟨w.heap.size + 1 + 1, 0, none⟩ = some (.slice none 0 0) ∧ w1.cell? ⟨w.heap.size + 1 + 1, 1, none⟩ = some (.int .i64 0) ∧ w1.cell? ⟨w.heap.size + 1 + 1, 2, none⟩ = some (.int .i64 0) ∧ w1.cell? ⟨w.heap.size + 1 + 1, 3, none⟩ = some (.int .i64 0) ∧ w1.cell? ⟨w.heap.size + 1 + 1, 4, none⟩ = some (.bool false) ∧ w1.cell? ⟨w.heap.size + 1 + 1, 5, none⟩ = some (.int .i64 0) := ⟨b1.cell 0, b1.cell 1, b1.cell 2, b1.cell 3, b1.cell 4, b1.cell 5⟩
    have l0 := b1.frozen 0
    have l1 := b1.frozen 1
    have l2 := b1.frozen 2
    have l3 := b1.frozen 3
    have l4 := b1.frozen 4
    have l5 := b1.frozen 5
    have hsz := b1.lt
    have hsz0 := q1.size
    have b2 := ((((((b1.set 0 (.slice A9 n9 c9)).set 1 (.int .i64 s9)).set 2 (.int .i64 m9)).set 3 (.int .i64 f9)).set 4 (.bool o9)).set 5 (.int .i64 b9))
    have q2 : Q w ((((((w1.setCell ⟨w.heap.size + 1 + 1, 0, none⟩ (.slice A9 n9 c9)).setCell ⟨w.heap.size + 1 + 1, 1, none⟩ (.int .i64 s9)).setCell ⟨w.heap.size + 1 + 1, 2, none⟩ (.int .i64 m9)).setCell ⟨w.heap.size + 1 + 1, 3, none⟩ (.int .i64 f9)).setCell ⟨w.heap.size + 1 + 1, 4, none⟩ (.bool o9)).setCell ⟨w.heap.size + 1 + 1, 5, none⟩ (.int .i64 b9)) := (Q.set (Q.set (Q.set (Q.set (Q.set (Q.set q1 (by omega) _) (by omega) _) (by omega) _) (by omega) _) (by omega) _) (by omega) _)
    have HZ2 : Hid (∀ x, Q w1 x → Zns x x.heap.size (.slice A9 n9 c9) zs9) := Lib.hid (fun x q => HZ9.out.on q)
    have hkk : ∀ j, j ≠ w.heap.size + 1 + 1 → (((((((w1.setCell ⟨w.heap.size + 1 + 1, 0, none⟩ (.slice A9 n9 c9)).setCell ⟨w.heap.size + 1 + 1, 1, none⟩ (.int .i64 s9)).setCell ⟨w.heap.size + 1 + 1, 2, none⟩ (.int .i64 m9)).setCell ⟨w.heap.size + 1 + 1, 3, none⟩ (.int .i64 f9)).setCell ⟨w.heap.size + 1 + 1, 4, none⟩ (.bool o9)).setCell ⟨w.heap.size + 1 + 1, 5, none⟩ (.int .i64 b9))).heap[j]? = w1.heap[j]? := fun j hj => (heap_set _ _ _ _ hj).trans ( (heap_set _ _ _ _ hj).trans ( (heap_set _ _ _ _ hj).trans ( (heap_set _ _ _ _ hj).trans ( (heap_set _ _ _ _ hj).trans (heap_set _ _ _ _ hj)))))
    have hzz := Zns.off HZ9.out b1 hkk (by simp)
    clear hkk
    obtain ⟨w9, hw9⟩ : ∃ z, z = ((((((w1.setCell ⟨w.heap.size + 1 + 1, 0, none⟩ (.slice A9 n9 c9)).setCell ⟨w.heap.size + 1 + 1, 1, none⟩ (.int .i64 s9)).setCell ⟨w.heap.size + 1 + 1, 2, none⟩ (.int .i64 m9)).setCell ⟨w.heap.size + 1 + 1, 3, none⟩ (.int .i64 f9)).setCell ⟨w.heap.size + 1 + 1, 4, none⟩ (.bool o9)).setCell ⟨w.heap.size + 1 + 1, 5, none⟩ (.int .i64 b9)) := ⟨_, rfl⟩
    rw [← hw9] at b2 q2 hzz
    simp only [List.setIfInBounds_toArray, List.set_cons_zero, List.set_cons_succ] at b2
    have B9 := Lib.hid b2
    have Q9 := Lib.hid q2
    have Z9 := Lib.hid hzz
    clear b2 q2 hzz q1 b1 hsz hsz0 d1
    go_wp2_with fail
    rw [← hw9]
    clear hw9
    obtain ⟨k0, k1, k2, k3, k4, k5⟩ : w9.cell? ⟨w.heap.size + 1 + 1, 0, none⟩ = some (.slice A9 n9 c9) ∧ w9.cell? ⟨w.heap.size + 1 + 1, 1, none⟩ = some (.int .i64 s9) ∧ w9.cell? ⟨w.heap.size + 1 + 1, 2, none⟩ = some (.int .i64 m9) ∧ w9.cell? ⟨w.heap.size + 1 + 1, 3, none⟩ = some (.int .i64 f9) ∧ w9.cell? ⟨w.heap.size + 1 + 1, 4, none⟩ = some (.bool o9) ∧ w9.cell? ⟨w.heap.size + 1 + 1, 5, none⟩ = some (.int .i64 b9) := ⟨B9.out.cell 0, B9.out.cell 1, B9.out.cell 2, B9.out.cell 3, B9.out.cell 4, B9.out.cell 5⟩
    (try simp only [Exit.inBlock, Exit.then])
    refine bodyPost_ret (v := .tuple #[.agg #[.slice A9 n9 c9, .int .i64 s9, .int .i64 m9, .int .i64 f9, .bool o9, .int .i64 b9], .int .i64 (e9 : Nat)]) ?_ rfl ⟨_, by rw [HA.out]; rfl, by rw [HA.out]; exact Z9.out, Q9.out⟩
    rw [results_cell_tmp rfl]
    go_simp
  | 0, _, hk => 
    have HA := Lib.hid (D0.out (by omega))
    have hki : (kind : Int) % 5 = 0 := by omega
    clear hk D0 D2 D3 D4
    obtain ⟨r, hr⟩ : ∃ r, r = appD ⟨zs, size, mo, fuel, off, bad⟩ (z : Int) OB := ⟨_, rfl⟩
    rw [← hr] at C1 HA
    clear hr
    obtain ⟨⟨zs9, s9, m9, f9, o9, b9⟩, e9⟩ := r
    unfold DevC dvV at C1
    simp only at C1
    have KS : Hid (∀ x, Q W0 x → (fun W => W.cell? ⟨w.heap.size, 0, none⟩ = some (.slice A0 n0 c0) ∧ W.cell? ⟨w.heap.size, 1, none⟩ = some (.int .i64 size) ∧ W.cell? ⟨w.heap.size, 2, none⟩ = some (.int .i64 mo) ∧ W.cell? ⟨w.heap.size, 3, none⟩ = some (.int .i64 fuel) ∧ W.cell? ⟨w.heap.size, 4, none⟩ = some (.bool off) ∧ W.cell? ⟨w.heap.size, 5, none⟩ = some (.int .i64 bad) ∧ W.cell? ⟨w.heap.size + 1, 2, none⟩ = some (.int .u8 (many : Nat)) ∧ W.cell? ⟨w.heap.size + 1, 3, none⟩ = some (.int .u8 (c : Nat))) x) := Lib.hid (fun x q => ⟨(HBD.out.on q).cell 0, (HBD.out.on q).cell 1, (HBD.out.on q).cell 2, (HBD.out.on q).cell 3, (HBD.out.on q).cell 4, (HBD.out.on q).cell 5, (HBA.out.on q).cell 2, (HBA.out.on q).cell 3⟩)
    go_upto_region 5 with fail
    clear x0 x1 x2 x3 x4 x5 y0 y1 y2 y3
    have q5 := (Q.refl W0).drew
    refine wp_region_held_drew (S := (fun W => W.cell? ⟨w.heap.size, 0, none⟩ = some (.slice A0 n0 c0) ∧ W.cell? ⟨w.heap.size, 1, none⟩ = some (.int .i64 size) ∧ W.cell? ⟨w.heap.size, 2, none⟩ = some (.int .i64 mo) ∧ W.cell? ⟨w.heap.size, 3, none⟩ = some (.int .i64 fuel) ∧ W.cell? ⟨w.heap.size, 4, none⟩ = some (.bool off) ∧ W.cell? ⟨w.heap.size, 5, none⟩ = some (.int .i64 bad) ∧ W.cell? ⟨w.heap.size + 1, 2, none⟩ = some (.int .u8 (many : Nat)) ∧ W.cell? ⟨w.heap.size + 1, 3, none⟩ = some (.int .u8 (c : Nat)))) (by kernel_rfl) (KS.out _ q5) (fun hHeld => ?_)
    refine tkV 0 ?_
    refine tkV 1 ?_
    refine tkV 2 ?_
    refine tkV 3 ?_
    refine tkV 4 ?_
    refine tkV 5 ?_
    refine tkB 6 (.int .u8 (m : Nat)) ?_
    refine tkB 7 (.int .i64 (m : Nat)) ?_
    refine tkB 8 (.int .i64 (K : Nat)) ?_
    refine aR [9] ?_
    refine AllReadyH.cons (o := _) rfl (fun K_ hK => ?_) AllReadyH.nil
    go_simp
    go_at_call 24
    refine (C0.out _).mono ?_
    rintro e w5 ⟨rfl, d5⟩
    have q6 := q5.trans d5
    refine hK.out _ _ (KS.out _ q6) (fun hHeld2 => ?_)
    clear hK K_
    refine pg ?_
    refine aR [10] ?_
    refine AllReadyH.cons (o := _) rfl (fun K_ hK => ?_) AllReadyH.nil
    go_simp
    go_at_call 23
    refine (C1.out _ (Q0.out.trans q6)).mono ?_
    rintro e w1 ⟨v9, rfl, hz9, d1⟩
    obtain ⟨A9, c9, rfl⟩ := hz9.form
    obtain ⟨n9, hn9⟩ : ∃ n, n = zs9.length := ⟨_, rfl⟩
    rw [← hn9] at hz9 ⊢
    have HZ9 := Lib.hid hz9
    clear hz9 hn9
    have d1 := q6.trans d1
    refine hK.out _ _ (KS.out _ d1) (fun hHeld3 => ?_)
    clear hK K_
    refine pg ?_
    refine tkV 11 ?_
    refine tkV 12 ?_
    have b1 := BR.out.on d1
    have q1 := Q0.out.trans d1
    obtain ⟨g0, g1, g2, g3, g4, g5⟩ : w1.cell? ⟨w.heap.size + 1 + 1, 0, none⟩ = some (.slice none 0 0) ∧ w1.cell? ⟨w.heap.size + 1 + 1, 1, none⟩ = some (.int .i64 0) ∧ w1.cell? ⟨w.heap.size + 1 + 1, 2, none⟩ = some (.int .i64 0) ∧ w1.cell? ⟨w.heap.size + 1 + 1, 3, none⟩ = some (.int .i64 0) ∧ w1.cell? ⟨w.heap.size + 1 + 1, 4, none⟩ = some (.bool false) ∧ w1.cell? ⟨w.heap.size + 1 + 1, 5, none⟩ = some (.int .i64 0) := ⟨b1.cell 0, b1.cell 1, b1.cell 2, b1.cell 3, b1.cell 4, b1.cell 5⟩
    have l0 := b1.frozen 0
    have l1 := b1.frozen 1
    have l2 := b1.frozen 2
    have l3 := b1.frozen 3
    have l4 := b1.frozen 4
    have l5 := b1.frozen 5
    have hsz := b1.lt
    have hsz0 := q1.size
    have b2 := ((((((b1.set 0 (.slice A9 n9 c9)).set 1 (.int .i64 s9)).set 2 (.int .i64 m9)).set 3 (.int .i64 f9)).set 4 (.bool o9)).set 5 (.int .i64 b9))
    have q2 : Q w ((((((w1.setCell ⟨w.heap.size + 1 + 1, 0, none⟩ (.slice A9 n9 c9)).setCell ⟨w.heap.size + 1 + 1, 1, none⟩ (.int .i64 s9)).setCell ⟨w.heap.size + 1 + 1, 2, none⟩ (.int .i64 m9)).setCell ⟨w.heap.size + 1 + 1, 3, none⟩ (.int .i64 f9)).setCell ⟨w.heap.size + 1 + 1, 4, none⟩ (.bool o9)).setCell ⟨w.heap.size + 1 + 1, 5, none⟩ (.int .i64 b9)) := (Q.set (Q.set (Q.set (Q.set (Q.set (Q.set q1 (by omega) _) (by omega) _) (by omega) _) (by omega) _) (by omega) _) (by omega) _)
    have HZ2 : Hid (∀ x, Q w1 x → Zns x x.heap.size (.slice A9 n9 c9) zs9) := Lib.hid (fun x q => HZ9.out.on q)
    have hkk : ∀ j, j ≠ w.heap.size + 1 + 1 → (((((((w1.setCell ⟨w.heap.size + 1 + 1, 0, none⟩ (.slice A9 n9 c9)).setCell ⟨w.heap.size + 1 + 1, 1, none⟩ (.int .i64 s9)).setCell ⟨w.heap.size + 1 + 1, 2, none⟩ (.int .i64 m9)).setCell ⟨w.heap.size + 1 + 1, 3, none⟩ (.int .i64 f9)).setCell ⟨w.heap.size + 1 + 1, 4, none⟩ (.bool o9)).setCell ⟨w.heap.size + 1 + 1, 5, none⟩ (.int .i64 b9))).heap[j]? = w1.heap[j]? := fun j hj => (heap_set _ _ _ _ hj).trans ( (heap_set _ _ _ _ hj).trans ( (heap_set _ _ _ _ hj).trans ( (heap_set _ _ _ _ hj).trans ( (heap_set _ _ _ _ hj).trans (heap_set _ _ _ _ hj)))))
    have hzz := Zns.off HZ9.out b1 hkk (by simp)
    clear hkk
    obtain ⟨w9, hw9⟩ : ∃ z, z = ((((((w1.setCell ⟨w.heap.size + 1 + 1, 0, none⟩ (.slice A9 n9 c9)).setCell ⟨w.heap.size + 1 + 1, 1, none⟩ (.int .i64 s9)).setCell ⟨w.heap.size + 1 + 1, 2, none⟩ (.int .i64 m9)).setCell ⟨w.heap.size + 1 + 1, 3, none⟩ (.int .i64 f9)).setCell ⟨w.heap.size + 1 + 1, 4, none⟩ (.bool o9)).setCell ⟨w.heap.size + 1 + 1, 5, none⟩ (.int .i64 b9)) := ⟨_, rfl⟩
    rw [← hw9] at b2 q2 hzz
    simp only [List.setIfInBounds_toArray, List.set_cons_zero, List.set_cons_succ] at b2
    have B9 := Lib.hid b2
    have Q9 := Lib.hid q2
    have Z9 := Lib.hid hzz
    have b6 := (((((((HBD.out.on d1).other (B2 := w.heap.size + 1 + 1) (by omega) 0 (.slice A9 n9 c9)).other (B2 := w.heap.size + 1 + 1) (by omega) 1 (.int .i64 s9)).other (B2 := w.heap.size + 1 + 1) (by omega) 2 (.int .i64 m9)).other (B2 := w.heap.size + 1 + 1) (by omega) 3 (.int .i64 f9)).other (B2 := w.heap.size + 1 + 1) (by omega) 4 (.bool o9)).other (B2 := w.heap.size + 1 + 1) (by omega) 5 (.int .i64 b9))
    have b7 := (((((((HBA.out.on d1).other (B2 := w.heap.size + 1 + 1) (by omega) 0 (.slice A9 n9 c9)).other (B2 := w.heap.size + 1 + 1) (by omega) 1 (.int .i64 s9)).other (B2 := w.heap.size + 1 + 1) (by omega) 2 (.int .i64 m9)).other (B2 := w.heap.size + 1 + 1) (by omega) 3 (.int .i64 f9)).other (B2 := w.heap.size + 1 + 1) (by omega) 4 (.bool o9)).other (B2 := w.heap.size + 1 + 1) (by omega) 5 (.int .i64 b9))
    rw [← hw9] at b6 b7
    refine aR [13] ?_
    refine AllReadyH.cons (o := _) rfl (fun K_ hK => ?_) AllReadyH.nil
    go_simp
    rw [← hw9]
    clear hw9
    refine hK.out _ _ ⟨b6.cell 0, b6.cell 1, b6.cell 2, b6.cell 3, b6.cell 4, b6.cell 5, b7.cell 2, b7.cell 3⟩ (fun hHeld4 => ?_)
    clear hK K_ b6 b7
    refine pg ?_
    refine tkV 14 ?_
    refine wpAnyH_done (by kernel_rfl) ?_ _
    go_wp2_with fail
    obtain ⟨k0, k1, k2, k3, k4, k5⟩ : w9.cell? ⟨w.heap.size + 1 + 1, 0, none⟩ = some (.slice A9 n9 c9) ∧ w9.cell? ⟨w.heap.size + 1 + 1, 1, none⟩ = some (.int .i64 s9) ∧ w9.cell? ⟨w.heap.size + 1 + 1, 2, none⟩ = some (.int .i64 m9) ∧ w9.cell? ⟨w.heap.size + 1 + 1, 3, none⟩ = some (.int .i64 f9) ∧ w9.cell? ⟨w.heap.size + 1 + 1, 4, none⟩ = some (.bool o9) ∧ w9.cell? ⟨w.heap.size + 1 + 1, 5, none⟩ = some (.int .i64 b9) := ⟨B9.out.cell 0, B9.out.cell 1, B9.out.cell 2, B9.out.cell 3, B9.out.cell 4, B9.out.cell 5⟩
    (try simp only [Exit.inBlock, Exit.then])
    refine bodyPost_ret (v := .tuple #[.agg #[.slice A9 n9 c9, .int .i64 s9, .int .i64 m9, .int .i64 f9, .bool o9, .int .i64 b9], .int .i64 (e9 : Nat)]) ?_ rfl ⟨_, by rw [HA.out]; rfl, by rw [HA.out]; exact Z9.out, Q9.out⟩
    rw [results_cell_tmp rfl]
    go_simp
  | 1, _, hk => 
    have HA := Lib.hid (D0.out (by omega))
    have hki : (kind : Int) % 5 = 1 := by omega
    clear hk D0 D2 D3 D4
    obtain ⟨r, hr⟩ : ∃ r, r = appD ⟨zs, size, mo, fuel, off, bad⟩ (z : Int) OB := ⟨_, rfl⟩
    rw [← hr] at C1 HA
    clear hr
    obtain ⟨⟨zs9, s9, m9, f9, o9, b9⟩, e9⟩ := r
    unfold DevC dvV at C1
    simp only at C1
    have KS : Hid (∀ x, Q W0 x → (fun W => W.cell? ⟨w.heap.size, 0, none⟩ = some (.slice A0 n0 c0) ∧ W.cell? ⟨w.heap.size, 1, none⟩ = some (.int .i64 size) ∧ W.cell? ⟨w.heap.size, 2, none⟩ = some (.int .i64 mo) ∧ W.cell? ⟨w.heap.size, 3, none⟩ = some (.int .i64 fuel) ∧ W.cell? ⟨w.heap.size, 4, none⟩ = some (.bool off) ∧ W.cell? ⟨w.heap.size, 5, none⟩ = some (.int .i64 bad) ∧ W.cell? ⟨w.heap.size + 1, 2, none⟩ = some (.int .u8 (many : Nat)) ∧ W.cell? ⟨w.heap.size + 1, 3, none⟩ = some (.int .u8 (c : Nat))) x) := Lib.hid (fun x q => ⟨(HBD.out.on q).cell 0, (HBD.out.on q).cell 1, (HBD.out.on q).cell 2, (HBD.out.on q).cell 3, (HBD.out.on q).cell 4, (HBD.out.on q).cell 5, (HBA.out.on q).cell 2, (HBA.out.on q).cell 3⟩)
    go_upto_region 5 with fail
    clear x0 x1 x2 x3 x4 x5 y0 y1 y2 y3
    have q5 := (Q.refl W0).drew
    refine wp_region_held_drew (S := (fun W => W.cell? ⟨w.heap.size, 0, none⟩ = some (.slice A0 n0 c0) ∧ W.cell? ⟨w.heap.size, 1, none⟩ = some (.int .i64 size) ∧ W.cell? ⟨w.heap.size, 2, none⟩ = some (.int .i64 mo) ∧ W.cell? ⟨w.heap.size, 3, none⟩ = some (.int .i64 fuel) ∧ W.cell? ⟨w.heap.size, 4, none⟩ = some (.bool off) ∧ W.cell? ⟨w.heap.size, 5, none⟩ = some (.int .i64 bad) ∧ W.cell? ⟨w.heap.size + 1, 2, none⟩ = some (.int .u8 (many : Nat)) ∧ W.cell? ⟨w.heap.size + 1, 3, none⟩ = some (.int .u8 (c : Nat)))) (by kernel_rfl) (KS.out _ q5) (fun hHeld => ?_)
    refine tkV 0 ?_
    refine tkV 1 ?_
    refine tkV 2 ?_
    refine tkV 3 ?_
    refine tkV 4 ?_
    refine tkV 5 ?_
    refine tkB 6 (.int .u8 (m : Nat)) ?_
    refine tkB 7 (.int .i64 (m : Nat)) ?_
    refine tkB 8 (.int .i64 (K : Nat)) ?_
    refine aR [9] ?_
    refine AllReadyH.cons (o := _) rfl (fun K_ hK => ?_) AllReadyH.nil
    go_simp
    go_at_call 24
    refine (C0.out _).mono ?_
    rintro e w5 ⟨rfl, d5⟩
    have q6 := q5.trans d5
    refine hK.out _ _ (KS.out _ q6) (fun hHeld2 => ?_)
    clear hK K_
    refine pg ?_
    refine aR [10] ?_
    refine AllReadyH.cons (o := _) rfl (fun K_ hK => ?_) AllReadyH.nil
    go_simp
    go_at_call 23
    refine (C1.out _ (Q0.out.trans q6)).mono ?_
    rintro e w1 ⟨v9, rfl, hz9, d1⟩
    obtain ⟨A9, c9, rfl⟩ := hz9.form
    obtain ⟨n9, hn9⟩ : ∃ n, n = zs9.length := ⟨_, rfl⟩
    rw [← hn9] at hz9 ⊢
    have HZ9 := Lib.hid hz9
    clear hz9 hn9
    have d1 := q6.trans d1
    refine hK.out _ _ (KS.out _ d1) (fun hHeld3 => ?_)
    clear hK K_
    refine pg ?_
    refine tkV 11 ?_
    refine tkV 12 ?_
    have b1 := BR.out.on d1
    have q1 := Q0.out.trans d1
    obtain ⟨g0, g1, g2, g3, g4, g5⟩ : w1.cell? ⟨w.heap.size + 1 + 1, 0, none⟩ = some (.slice none 0 0) ∧ w1.cell? ⟨w.heap.size + 1 + 1, 1, none⟩ = some (.int .i64 0) ∧ w1.cell? ⟨w.heap.size + 1 + 1, 2, none⟩ = some (.int .i64 0) ∧ w1.cell? ⟨w.heap.size + 1 + 1, 3, none⟩ = some (.int .i64 0) ∧ w1.cell? ⟨w.heap.size + 1 + 1, 4, none⟩ = some (.bool false) ∧ w1.cell? ⟨w.heap.size + 1 + 1, 5, none⟩ = some (.int .i64 0) := ⟨b1.cell 0, b1.cell 1, b1.cell 2, b1.cell 3, b1.cell 4, b1.cell 5⟩
    have l0 := b1.frozen 0
    have l1 := b1.frozen 1
    have l2 := b1.frozen 2
    have l3 := b1.frozen 3
    have l4 := b1.frozen 4
    have l5 := b1.frozen 5
    have hsz := b1.lt
    have hsz0 := q1.size
    have b2 := ((((((b1.set 0 (.slice A9 n9 c9)).set 1 (.int .i64 s9)).set 2 (.int .i64 m9)).set 3 (.int .i64 f9)).set 4 (.bool o9)).set 5 (.int .i64 b9))
    have q2 : Q w ((((((w1.setCell ⟨w.heap.size + 1 + 1, 0, none⟩ (.slice A9 n9 c9)).setCell ⟨w.heap.size + 1 + 1, 1, none⟩ (.int .i64 s9)).setCell ⟨w.heap.size + 1 + 1, 2, none⟩ (.int .i64 m9)).setCell ⟨w.heap.size + 1 + 1, 3, none⟩ (.int .i64 f9)).setCell ⟨w.heap.size + 1 + 1, 4, none⟩ (.bool o9)).setCell ⟨w.heap.size + 1 + 1, 5, none⟩ (.int .i64 b9)) := (Q.set (Q.set (Q.set (Q.set (Q.set (Q.set q1 (by omega) _) (by omega) _) (by omega) _) (by omega) _) (by omega) _) (by omega) _)
    have HZ2 : Hid (∀ x, Q w1 x → Zns x x.heap.size (.slice A9 n9 c9) zs9) := Lib.hid (fun x q => HZ9.out.on q)
    have hkk : ∀ j, j ≠ w.heap.size + 1 + 1 → (((((((w1.setCell ⟨w.heap.size + 1 + 1, 0, none⟩ (.slice A9 n9 c9)).setCell ⟨w.heap.size + 1 + 1, 1, none⟩ (.int .i64 s9)).setCell ⟨w.heap.size + 1 + 1, 2, none⟩ (.int .i64 m9)).setCell ⟨w.heap.size + 1 + 1, 3, none⟩ (.int .i64 f9)).setCell ⟨w.heap.size + 1 + 1, 4, none⟩ (.bool o9)).setCell ⟨w.heap.size + 1 + 1, 5, none⟩ (.int .i64 b9))).heap[j]? = w1.heap[j]? := fun j hj => (heap_set _ _ _ _ hj).trans ( (heap_set _ _ _ _ hj).trans ( (heap_set _ _ _ _ hj).trans ( (heap_set _ _ _ _ hj).trans ( (heap_set _ _ _ _ hj).trans (heap_set _ _ _ _ hj)))))
    have hzz := Zns.off HZ9.out b1 hkk (by simp)
    clear hkk
    obtain ⟨w9, hw9⟩ : ∃ z, z = ((((((w1.setCell ⟨w.heap.size + 1 + 1, 0, none⟩ (.slice A9 n9 c9)).setCell ⟨w.heap.size + 1 + 1, 1, none⟩ (.int .i64 s9)).setCell ⟨w.heap.size + 1 + 1, 2, none⟩ (.int .i64 m9)).setCell ⟨w.heap.size + 1 + 1, 3, none⟩ (.int .i64 f9)).setCell ⟨w.heap.size + 1 + 1, 4, none⟩ (.bool o9)).setCell ⟨w.heap.size + 1 + 1, 5, none⟩ (.int .i64 b9)) := ⟨_, rfl⟩
    rw [← hw9] at b2 q2 hzz
    simp only [List.setIfInBounds_toArray, List.set_cons_zero, List.set_cons_succ] at b2
    have B9 := Lib.hid b2
    have Q9 := Lib.hid q2
    have Z9 := Lib.hid hzz
    have b6 := (((((((HBD.out.on d1).other (B2 := w.heap.size + 1 + 1) (by omega) 0 (.slice A9 n9 c9)).other (B2 := w.heap.size + 1 + 1) (by omega) 1 (.int .i64 s9)).other (B2 := w.heap.size + 1 + 1) (by omega) 2 (.int .i64 m9)).other (B2 := w.heap.size + 1 + 1) (by omega) 3 (.int .i64 f9)).other (B2 := w.heap.size + 1 + 1) (by omega) 4 (.bool o9)).other (B2 := w.heap.size + 1 + 1) (by omega) 5 (.int .i64 b9))
    have b7 := (((((((HBA.out.on d1).other (B2 := w.heap.size + 1 + 1) (by omega) 0 (.slice A9 n9 c9)).other (B2 := w.heap.size + 1 + 1) (by omega) 1 (.int .i64 s9)).other (B2 := w.heap.size + 1 + 1) (by omega) 2 (.int .i64 m9)).other (B2 := w.heap.size + 1 + 1) (by omega) 3 (.int .i64 f9)).other (B2 := w.heap.size + 1 + 1) (by omega) 4 (.bool o9)).other (B2 := w.heap.size + 1 + 1) (by omega) 5 (.int .i64 b9))
    rw [← hw9] at b6 b7
    refine aR [13] ?_
    refine AllReadyH.cons (o := _) rfl (fun K_ hK => ?_) AllReadyH.nil
    go_simp
    rw [← hw9]
    clear hw9
    refine hK.out _ _ ⟨b6.cell 0, b6.cell 1, b6.cell 2, b6.cell 3, b6.cell 4, b6.cell 5, b7.cell 2, b7.cell 3⟩ (fun hHeld4 => ?_)
    clear hK K_ b6 b7
    refine pg ?_
    refine tkV 14 ?_
    refine wpAnyH_done (by kernel_rfl) ?_ _
    go_wp2_with fail
    obtain ⟨k0, k1, k2, k3, k4, k5⟩ : w9.cell? ⟨w.heap.size + 1 + 1, 0, none⟩ = some (.slice A9 n9 c9) ∧ w9.cell? ⟨w.heap.size + 1 + 1, 1, none⟩ = some (.int .i64 s9) ∧ w9.cell? ⟨w.heap.size + 1 + 1, 2, none⟩ = some (.int .i64 m9) ∧ w9.cell? ⟨w.heap.size + 1 + 1, 3, none⟩ = some (.int .i64 f9) ∧ w9.cell? ⟨w.heap.size + 1 + 1, 4, none⟩ = some (.bool o9) ∧ w9.cell? ⟨w.heap.size + 1 + 1, 5, none⟩ = some (.int .i64 b9) := ⟨B9.out.cell 0, B9.out.cell 1, B9.out.cell 2, B9.out.cell 3, B9.out.cell 4, B9.out.cell 5⟩
    (try simp only [Exit.inBlock, Exit.then])
    refine bodyPost_ret (v := .tuple #[.agg #[.slice A9 n9 c9, .int .i64 s9, .int .i64 m9, .int .i64 f9, .bool o9, .int .i64 b9], .int .i64 (e9 : Nat)]) ?_ rfl ⟨_, by rw [HA.out]; rfl, by rw [HA.out]; exact Z9.out, Q9.out⟩
    rw [results_cell_tmp rfl]
    go_simp
end Go.Proofs.Yteoondmakdghhaa

namespace Go.Proofs.Yteoondmakdghhaa
set_option maxRecDepth 100000
open Go.ChangeShapes Go.WideShapes Go.ChangeAt Go.RowKit
set_option linter.unusedVariables false
set_option linter.unusedSimpArgs false
set_option maxRecDepth 100000
theorem wfu8 {a : Int} (h : (Lit.int .u8 a).wf = true) : ∃ n : Nat, a = n ∧ n < 256 := by
  have h2 : 0 ≤ a ∧ a ≤ 255 := by simpa [Lit.wf, IntKind.min, IntKind.max, IntKind.signed, IntKind.bits] using h
  exact ⟨a.toNat, by omega, by omega⟩
/-- A device that came in. -/
theorem open_dev {H : Type} {enc : TypeId × Value → H} {W : World} {b0 : Nat} {v : Value} {d : DataW H} {p : List MemPlace} (hv : Value.okWide Try.prog W .any b0 24 v)
    (h : DataW.Trod enc Try.prog W 0 (fun _ => true) true 24 v d p) :
    ∃ (x : Dv) (u : Value), v = dvV x u ∧ Zns W W.heap.size u x.zs ∧ okD x := by
  obtain ⟨cs, rfl, hsz⟩ := okWide_struct Try.underlying24 hv
  have h6 : Try.prog.cellsOf 24 = 6 := by kernel_rfl
  rw [h6] at hsz
  obtain ⟨v0, v1, v2, v3, v4, v5, rfl⟩ : ∃ a b c d e f, cs = #[a, b, c, d, e, f] := by
    obtain ⟨l⟩ := cs
    match l, hsz with
    | [a, b, c, d, e, f], _ => exact ⟨a, b, c, d, e, f, rfl⟩
  obtain ⟨fuel, hf⟩ := h
  obtain ⟨xs, n, _, _, hl0, hlen, hg⟩ := DataW.trod_struct Try.underlying24 hf
  have hlen6 : xs.length = 6 := hlen
  have c0 : Try.prog.cellsOf 22 = 1 := by kernel_rfl
  have c1 : Try.prog.cellsOf 3 = 1 := by kernel_rfl
  have c2 : Try.prog.cellsOf 4 = 1 := by kernel_rfl
  have g0 := hg 0 _ rfl
  have g1 := hg 1 _ rfl
  have g2 := hg 2 _ rfl
  have g3 := hg 3 _ rfl
  have g4 := hg 4 _ rfl
  have g5 := hg 5 _ rfl
  rw [List.getElem?_eq_getElem (by omega)] at g0 g1 g2 g3 g4 g5
  simp [Value.cells, c0, c1, c2] at g0 g1 g2 g3 g4 g5
  obtain ⟨L, hL, mL⟩ := zns_cell g0
  obtain ⟨s1, e1, -, w1⟩ := DataW.trod_int Try.underlying3 g1
  obtain ⟨s2, e2, -, w2⟩ := DataW.trod_int Try.underlying3 g2
  obtain ⟨s3, e3, -, w3⟩ := DataW.trod_int Try.underlying3 g3
  obtain ⟨s4, e4, -⟩ := DataW.trod_bool Try.underlying4 g4
  obtain ⟨s5, e5, -, w5⟩ := DataW.trod_int Try.underlying3 g5
  simp at e1 e2 e3 e4 e5
  subst e1 e2 e3 e4 e5
  exact ⟨⟨L, s1, s2, s3, s4, s5⟩, v0, rfl, hL, mL, wf64 w1, wf64 w2, wf64 w3, wf64 w5⟩
theorem trod_ac {H : Type} {enc : TypeId × Value → H} {W : World} {n : Nat} {cs : List Value} {y : DataW H × List MemPlace} (hl : cs.length = 4)
    (hf : DataW.trod enc Try.prog W 0 (fun _ => true) true n 50 cs = some y) :
    ∃ a : Ac, cs = [.int .u8 (a.kind : Nat), .int .u8 (a.zone : Nat), .int .u8 (a.many : Nat), .int .u8 (a.c : Nat)] ∧ okA a := by
  obtain ⟨v0, v1, v2, v3, rfl⟩ : ∃ a b c d, cs = [a, b, c, d] := by
    match cs, hl with
    | [a, b, c, d], _ => exact ⟨a, b, c, d, rfl⟩
  obtain ⟨xs, n', _, _, hl0, hlen, hg⟩ := DataW.trod_struct Try.underlying50 hf
  have hlen4 : xs.length = 4 := hlen
  have c0 : Try.prog.cellsOf 5 = 1 := by kernel_rfl
  have g0 := hg 0 _ rfl
  have g1 := hg 1 _ rfl
  have g2 := hg 2 _ rfl
  have g3 := hg 3 _ rfl
  rw [List.getElem?_eq_getElem (by omega)] at g0 g1 g2 g3
  simp [c0] at g0 g1 g2 g3
  obtain ⟨s0, e0, -, w0⟩ := DataW.trod_int Try.underlying5 g0
  obtain ⟨s1, e1, -, w1⟩ := DataW.trod_int Try.underlying5 g1
  obtain ⟨s2, e2, -, w2⟩ := DataW.trod_int Try.underlying5 g2
  obtain ⟨s3, e3, -, w3⟩ := DataW.trod_int Try.underlying5 g3
  simp at e0 e1 e2 e3
  subst e0 e1 e2 e3
  obtain ⟨k0, rfl, j0⟩ := wfu8 w0
  obtain ⟨k1, rfl, j1⟩ := wfu8 w1
  obtain ⟨k2, rfl, j2⟩ := wfu8 w2
  obtain ⟨k3, rfl, j3⟩ := wfu8 w3
  exact ⟨⟨k0, k1, k2, k3⟩, rfl, j0, j1, j2, j3⟩
theorem open_ac {H : Type} {enc : TypeId × Value → H} {W : World} {b0 : Nat} {v : Value} {d : DataW H} {p : List MemPlace} (hv : Value.okWide Try.prog W .any b0 50 v)
    (h : DataW.Trod enc Try.prog W 0 (fun _ => true) true 50 v d p) : ∃ a : Ac, v = acV a ∧ okA a := by
  obtain ⟨cs, rfl, hsz⟩ := okWide_struct Try.underlying50 hv
  have h4 : Try.prog.cellsOf 50 = 4 := by kernel_rfl
  rw [h4] at hsz
  obtain ⟨fuel, hf⟩ := h
  obtain ⟨l⟩ := cs
  obtain ⟨a, ha, ok⟩ := trod_ac (cs := l) (by simpa using hsz) (by simpa [Value.cells] using hf)
  exact ⟨a, by rw [ha]; rfl, ok⟩
/-- A slice of acts. -/
def Acs (w : World) (B : Nat) (v : Value) (l : List Ac) : Prop :=
  ∃ A c, v = .slice A l.length c ∧ (∀ x ∈ l, okA x) ∧ ∀ k (h : k < l.length), ∃ a : Addr, A = some a ∧ a.block < B ∧ w.cell? (a.add (k * 4)) = some (.int .u8 (l[k].kind : Nat)) ∧ w.cell? ⟨(a.add (k * 4)).block, (a.add (k * 4)).off + 1, none⟩ = some (.int .u8 (l[k].zone : Nat)) ∧ w.cell? ⟨(a.add (k * 4)).block, (a.add (k * 4)).off + 2, none⟩ = some (.int .u8 (l[k].many : Nat)) ∧ w.cell? ⟨(a.add (k * 4)).block, (a.add (k * 4)).off + 3, none⟩ = some (.int .u8 (l[k].c : Nat))
theorem open_acs {H : Type} {enc : TypeId × Value → H} {W : World} {b : Nat} {v : Value} {d : DataW H} {p : List MemPlace} (hv : Value.okWide Try.prog W .any b 47 v)
    (h : DataW.Trod enc Try.prog W 0 (fun _ => true) true 47 v d p) : ∃ l : List Ac, Acs W W.heap.size v l ∧ l.length ≤ maxLen := by
  obtain ⟨a0, len, cap, rfl⟩ := okWide_slice Try.underlying47 hv
  obtain ⟨fuel, hf⟩ := h
  have hf2 : DataW.trod enc Try.prog W 0 (fun _ => true) true fuel 47 [.slice a0 len cap] = some (d, p) := by simpa [Value.cells] using hf
  have c4 : Try.prog.cellsOf 50 = 4 := by kernel_rfl
  rcases Deep.open_slice Try.underlying47 hf2 with ⟨hcs, hx⟩ | ⟨a, len', cap', m, n, D, Pl, hcs, _, hl, hm, hmm, hx, hel⟩
  · simp at hcs
    obtain ⟨rfl, rfl, rfl⟩ := hcs
    exact ⟨[], ⟨none, 0, rfl, by simp, fun k h => absurd h (by simp)⟩, by simp⟩
  · simp at hcs
    obtain ⟨rfl, rfl, rfl⟩ := hcs
    have each : ∀ i, i < len → ∃ x : Ac, okA x ∧ W.cell? (a.add (i * 4)) = some (.int .u8 (x.kind : Nat)) ∧ W.cell? ⟨(a.add (i * 4)).block, (a.add (i * 4)).off + 1, none⟩ = some (.int .u8 (x.zone : Nat)) ∧ W.cell? ⟨(a.add (i * 4)).block, (a.add (i * 4)).off + 2, none⟩ = some (.int .u8 (x.many : Nat)) ∧ W.cell? ⟨(a.add (i * 4)).block, (a.add (i * 4)).off + 3, none⟩ = some (.int .u8 (x.c : Nat)) := by
      intro i hi
      obtain ⟨cs', h1, h2⟩ := hel i (by rw [hmm]; simp; omega)
      rw [c4] at h1
      obtain ⟨-, hlen4, hcell⟩ := World.cells?_some h1
      obtain ⟨x, rfl, ok⟩ := trod_ac hlen4 h2
      exact ⟨x, ok, hcell 0 (by omega), (congrArg W.cell? (add_pos _ (by omega : 0 < 1)).symm).trans (hcell 1 (by omega)), (congrArg W.cell? (add_pos _ (by omega : 0 < 2)).symm).trans (hcell 2 (by omega)), (congrArg W.cell? (add_pos _ (by omega : 0 < 3)).symm).trans (hcell 3 (by omega))⟩
    obtain ⟨l, hlen, hp⟩ := list_of len each
    refine ⟨l, ⟨some a, cap, by rw [hlen], fun x hx => ?_, fun k hk => ⟨a, rfl, ?_, (hp k hk).2⟩⟩, by omega⟩
    · obtain ⟨k, hk, rfl⟩ := List.getElem_of_mem hx
      exact (hp k hk).1
    · have := World.block_lt_of_cell? W _ (hp k hk).2.1
      simpa [add_block] using this
theorem Acs.pick {w : World} {v : Value} {l : List Ac} (h : Acs w w.heap.size v l) (i : Nat) (hi : i < l.length) :
    ∃ (a : Addr) (c : Nat), v = .slice (some a) l.length c ∧ okA l[i] ∧ ∀ d, Q w d → d.cell? (a.add (i * 4)) = some (.int .u8 (l[i].kind : Nat)) ∧ d.cell? ⟨(a.add (i * 4)).block, (a.add (i * 4)).off + 1, none⟩ = some (.int .u8 (l[i].zone : Nat)) ∧ d.cell? ⟨(a.add (i * 4)).block, (a.add (i * 4)).off + 2, none⟩ = some (.int .u8 (l[i].many : Nat)) ∧ d.cell? ⟨(a.add (i * 4)).block, (a.add (i * 4)).off + 3, none⟩ = some (.int .u8 (l[i].c : Nat)) := by
  obtain ⟨A, c, rfl, eo, f⟩ := h
  obtain ⟨a, rfl, ha, h0, h1, h2, h3⟩ := f i hi
  have hb : (a.add (i * 4)).block < w.heap.size := by rw [add_block]; exact ha
  exact ⟨a, c, rfl, eo _ (List.getElem_mem hi), fun d q => ⟨(q.cell hb).trans h0, (q.cell (p := ⟨(a.add (i * 4)).block, (a.add (i * 4)).off + 1, none⟩) hb).trans h1, (q.cell (p := ⟨(a.add (i * 4)).block, (a.add (i * 4)).off + 2, none⟩) hb).trans h2, (q.cell (p := ⟨(a.add (i * 4)).block, (a.add (i * 4)).off + 3, none⟩) hb).trans h3⟩⟩
end Go.Proofs.Yteoondmakdghhaa

