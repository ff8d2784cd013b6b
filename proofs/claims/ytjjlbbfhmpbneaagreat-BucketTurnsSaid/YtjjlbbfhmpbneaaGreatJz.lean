/-
  Contract of the statements' Do. How a bucket, and an act, that come in are opened; the closed fact on the program's settings. Plain facts of BucketTurns: puts, deletes and drops at two keys may be turned. Acts, and what has been done, in boxes of their own.
-/
import Derived.Test.YtjjlbbfhmpbneaaGreatJy
import Derived.Test.YtjjlbbfhmpbneaaGreatJw
import Derived.Test.YtjjlbbfhmpbneaaGreatJx
import Derived.Test.YtjjlbbfhmpbneaaGreatJq
import Derived.Test.YtjjlbbfhmpbneaaGreatJg
import Derived.Test.YtjjlbbfhmpbneaaGreatJk
namespace Go.Proofs.YtjjlbbfhmpbneaaGreat
set_option maxRecDepth 100000
open Go.ChangeShapes Go.WideShapes Go.ChangeAt Go.RowKit Go.Shelf
set_option linter.unusedVariables false
set_option linter.unusedSimpArgs false
/-- What is done comes to. -/
def didC (d : Bkt) (lv uv : Value) (i : Nat) (s : ByteArray) (k : Nat) : Array Value := #[.string d.name, .int .i64 d.st, lv, uv, .int .u64 (d.last : Nat), .int .u64 (i : Nat), .string s, .int .i64 (k : Nat)]
def didV (d : Bkt) (lv uv : Value) (i : Nat) (s : ByteArray) (k : Nat) : Value := .agg (didC d lv uv i s k)
def DoR (b : Bkt) (a : Actn) : Bkt → Nat → Nat → ByteArray → Nat → Prop := match a.kind % 9 with
  | 0 => PutR b a.key a.data a.tm
  | 1 => PutR b a.key a.data a.tm
  | 2 => DelR b a.key a.tm
  | 3 => DropR b a.key a.id
  | 4 => TurnR b a.n
  | 5 => BegR b a.key
  | 6 => LayR b a.id ⟨a.n, a.data⟩
  | 7 => AboR b a.id
  | _ => WhoR b a.id a.P a.tm
theorem fin_of {b d : Bkt} {R : Bkt → Nat → Nat → ByteArray → Nat → Prop} {n t : Nat} {s : ByteArray} {k : Nat} {P : Nat → Nat → ByteArray → Prop} (h : FinC b R d n t s k) (h0 : P 0 0 noS) (hR : ∀ d n t s k, R d n t s k → P n t s) : P n t s := by
  rcases h with ⟨-, ⟨-, rfl, rfl, rfl⟩, -⟩ | ⟨-, d1, n1, t1, s1, k1, hr, ⟨-, ⟨-, rfl, rfl, rfl⟩, -⟩ | ⟨-, -, ⟨-, rfl, rfl, rfl⟩, -⟩ | ⟨-, -, ⟨-, rfl, rfl, rfl⟩, -⟩⟩
  · exact h0
  · exact h0
  · exact h0
  · exact hR _ _ _ _ _ hr
theorem bx_did {w : World} {p : Nat} {x0 x1 x2 x3 x4 x5 x6 x7 : Value} (h : Bx w p 34 #[x0, x1, x2, x3, x4, x5, x6, x7]) :
    (w.cell? ⟨p, 0, none⟩ = some x0 ∧ w.cell? ⟨p, 1, none⟩ = some x1 ∧ w.cell? ⟨p, 2, none⟩ = some x2 ∧ w.cell? ⟨p, 3, none⟩ = some x3 ∧ w.cell? ⟨p, 4, none⟩ = some x4 ∧ w.cell? ⟨p, 5, none⟩ = some x5 ∧ w.cell? ⟨p, 6, none⟩ = some x6 ∧ w.cell? ⟨p, 7, none⟩ = some x7) ∧
    (w.frozen? ⟨p, 0, none⟩ = false ∧ w.frozen? ⟨p, 1, none⟩ = false ∧ w.frozen? ⟨p, 2, none⟩ = false ∧ w.frozen? ⟨p, 3, none⟩ = false ∧ w.frozen? ⟨p, 4, none⟩ = false ∧ w.frozen? ⟨p, 5, none⟩ = false ∧ w.frozen? ⟨p, 6, none⟩ = false ∧ w.frozen? ⟨p, 7, none⟩ = false) := by
  refine ⟨⟨?_, ?_, ?_, ?_, ?_, ?_, ?_, ?_⟩, h.frozen 0, h.frozen 1, h.frozen 2, h.frozen 3, h.frozen 4, h.frozen 5, h.frozen 6, h.frozen 7⟩ <;> (rw [h.cell]; rfl)
set_option maxHeartbeats 1000000 in
theorem did_all {w : World} {p : Nat} {x0 x1 x2 x3 x4 x5 x6 x7 y0 y1 y2 y3 y4 y5 y6 y7 : Value} (h : Bx w p 34 #[x0, x1, x2, x3, x4, x5, x6, x7]) :
    Bx ((((((((w.setCell ⟨p, 0, none⟩ y0).setCell ⟨p, 1, none⟩ y1).setCell ⟨p, 2, none⟩ y2).setCell ⟨p, 3, none⟩ y3).setCell ⟨p, 4, none⟩ y4).setCell ⟨p, 5, none⟩ y5).setCell ⟨p, 6, none⟩ y6).setCell ⟨p, 7, none⟩ y7) p 34 #[y0, y1, y2, y3, y4, y5, y6, y7] ∧
    Kp p w ((((((((w.setCell ⟨p, 0, none⟩ y0).setCell ⟨p, 1, none⟩ y1).setCell ⟨p, 2, none⟩ y2).setCell ⟨p, 3, none⟩ y3).setCell ⟨p, 4, none⟩ y4).setCell ⟨p, 5, none⟩ y5).setCell ⟨p, 6, none⟩ y6).setCell ⟨p, 7, none⟩ y7) := by
  have h0 : Bx _ p 34 #[y0, x1, x2, x3, x4, x5, x6, x7] := h.set 0 y0
  have h1 : Bx _ p 34 #[y0, y1, x2, x3, x4, x5, x6, x7] := h0.set 1 y1
  have h2 : Bx _ p 34 #[y0, y1, y2, x3, x4, x5, x6, x7] := h1.set 2 y2
  have h3 : Bx _ p 34 #[y0, y1, y2, y3, x4, x5, x6, x7] := h2.set 3 y3
  have h4 : Bx _ p 34 #[y0, y1, y2, y3, y4, x5, x6, x7] := h3.set 4 y4
  have h5 : Bx _ p 34 #[y0, y1, y2, y3, y4, y5, x6, x7] := h4.set 5 y5
  have h6 : Bx _ p 34 #[y0, y1, y2, y3, y4, y5, y6, x7] := h5.set 6 y6
  exact ⟨h6.set 7 y7, ((((((((Kp.of (Q.refl w)).set 0 _).set 1 _).set 2 _).set 3 _).set 4 _).set 5 _).set 6 _).set 7 _⟩
theorem doR_0 {b : Bkt} {a : Actn} (h : a.kind % 9 = 0) : DoR b a = PutR b a.key a.data a.tm := by unfold DoR; rw [h]; rfl
theorem doR_1 {b : Bkt} {a : Actn} (h : a.kind % 9 = 1) : DoR b a = PutR b a.key a.data a.tm := by unfold DoR; rw [h]; rfl
theorem doR_2 {b : Bkt} {a : Actn} (h : a.kind % 9 = 2) : DoR b a = DelR b a.key a.tm := by unfold DoR; rw [h]; rfl
theorem doR_3 {b : Bkt} {a : Actn} (h : a.kind % 9 = 3) : DoR b a = DropR b a.key a.id := by unfold DoR; rw [h]; rfl
theorem doR_4 {b : Bkt} {a : Actn} (h : a.kind % 9 = 4) : DoR b a = TurnR b a.n := by unfold DoR; rw [h]; rfl
theorem doR_5 {b : Bkt} {a : Actn} (h : a.kind % 9 = 5) : DoR b a = BegR b a.key := by unfold DoR; rw [h]; rfl
theorem doR_6 {b : Bkt} {a : Actn} (h : a.kind % 9 = 6) : DoR b a = LayR b a.id ⟨a.n, a.data⟩ := by unfold DoR; rw [h]; rfl
theorem doR_7 {b : Bkt} {a : Actn} (h : a.kind % 9 = 7) : DoR b a = AboR b a.id := by unfold DoR; rw [h]; rfl
theorem doR_8 {b : Bkt} {a : Actn} (h : a.kind % 9 = 8) : DoR b a = WhoR b a.id a.P a.tm := by unfold DoR; rw [h]; rfl
set_option maxHeartbeats 16000000 in
theorem do0_any (b : Bkt) (lv uv : Value) (a : Actn) (pv : Value) (w : World) (d : Bkt) (n t : Nat) (s : ByteArray) (k : Nat) (hr : a.kind % 9 = 0) (hF : FinC b (PutR b a.key a.data a.tm) d n t s k) (ha : okA9 a) (hkey : a.key.size ≤ 1000) (hPl : a.P.length ≤ 1000) (hn : b.name.size ≤ 1000) (hs : smE b.L) (hu : smL b.U) (hv : BktV w b lv uv) (hp : Pces w w.heap.size pv a.P) :
    Calls Tryz.prog 12 #[bkt b lv uv, actV a pv] w fun e w' => ∃ A c A' c', e = .returned (didV d (.slice A d.L.length c) (.slice A' d.U.length c') (n + t) s k) ∧ BktV w' d (.slice A d.L.length c) (.slice A' d.U.length c') ∧ Q w w' := by
  obtain ⟨A1, c1, rfl⟩ := hv.1.form
  obtain ⟨A2, c2, rfl⟩ := hv.2.form
  obtain ⟨A3, c3, rfl⟩ := hp.form
  obtain ⟨hkd, -, hdat, -, hnn, htm, -⟩ := ha
  obtain ⟨rfl, rfl⟩ : t = 0 ∧ s = noS := fin_of (P := fun _ t s => t = 0 ∧ s = noS) hF ⟨rfl, rfl⟩ (fun _ _ _ _ _ h => ⟨h.2.1, h.2.2⟩)
  have q0 : Q w ((((w.alloc (.cells (bcl b (.slice A1 b.L.length c1) (.slice A2 b.U.length c2)) 26)).alloc (.cells (acl a (.slice A3 a.P.length c3)) 29)).alloc (.cells #[.string ⟨#[]⟩, .int .i64 0, .slice none 0 0, .slice none 0 0, .int .u64 0, .int .u64 0, .string ⟨#[]⟩, .int .i64 0] 34)).alloc (.cells #[.string ⟨#[]⟩, .int .i64 0, .slice none 0 0, .slice none 0 0, .int .u64 0, .int .u64 0, .string ⟨#[]⟩, .int .i64 0] 34)) := ((((Q.refl w).alloc _).alloc _).alloc _).alloc _
  have C := Lib.hid fun x (q : Q w x) => bPut_any b (.slice A1 b.L.length c1) (.slice A2 b.U.length c2) x a.key a.data a.tm d _ _ _ k hF hn hs hu hkey hdat htm.1 htm.2 (hv.on q)
  have Z0 := Bx.new (((w.alloc (.cells (bcl b (.slice A1 b.L.length c1) (.slice A2 b.U.length c2)) 26)).alloc (.cells (acl a (.slice A3 a.P.length c3)) 29)).alloc (.cells #[.string ⟨#[]⟩, .int .i64 0, .slice none 0 0, .slice none 0 0, .int .u64 0, .int .u64 0, .string ⟨#[]⟩, .int .i64 0] 34)) 34 #[.string ⟨#[]⟩, .int .i64 0, .slice none 0 0, .slice none 0 0, .int .u64 0, .int .u64 0, .string ⟨#[]⟩, .int .i64 0]
  have Y0 := (Bx.new ((w.alloc (.cells (bcl b (.slice A1 b.L.length c1) (.slice A2 b.U.length c2)) 26)).alloc (.cells (acl a (.slice A3 a.P.length c3)) 29)) 34 #[.string ⟨#[]⟩, .int .i64 0, .slice none 0 0, .slice none 0 0, .int .u64 0, .int .u64 0, .string ⟨#[]⟩, .int .i64 0]).alloc (.cells #[.string ⟨#[]⟩, .int .i64 0, .slice none 0 0, .slice none 0 0, .int .u64 0, .int .u64 0, .string ⟨#[]⟩, .int .i64 0] 34)
  simp only [World.size_alloc] at Z0 Y0
  have Z := Lib.hid Z0
  have Y := Lib.hid Y0
  have hk9 : (a.kind : Int) % 9 = 0 := by omega
  obtain ⟨kd, hkd2⟩ : ∃ kd : Int, kd = (a.kind : Int) := ⟨_, rfl⟩
  have HKT : Hid (kd.tmod 9 = 0) := Lib.hid (by rw [hkd2, Int.tmod_eq_emod_of_nonneg (by omega), hk9])
  have HKD := Lib.hid hkd2
  clear hF hn hs hu hv hp hr Z0 Y0 hk9 hkd hkey hPl hdat hnn htm
  simp only [bkt] at C
  rw [actV, acl, bkt]
  rw [← hkd2]
  clear hkd2
  go_enter Tryz.func12, Tryz.ntmps12
  go_upto_region 4 with fail
  rw [HKT.out]
  have hkd3 := HKD.out
  clear HKT HKD
  subst hkd3
  go_wp2_with fail
  refine (C.out _ q0).mono ?_
  rintro e w1 ⟨A, c, A', c', rfl, v1, q1⟩
  have z1 := Z.out.on q1
  have y1 := Y.out.on q1
  have V := Lib.hid v1
  have ZZ := Lib.hid z1
  have YY := Lib.hid y1
  have QQ := Lib.hid (q0.trans q1)
  obtain ⟨⟨r0, r1, r2, r3, r4, r5, r6, r7⟩, f0, f1, f2, f3, f4, f5, f6, f7⟩ := bx_did z1
  obtain ⟨⟨s0, s1, s2, s3, s4, s5, s6, s7⟩, g0, g1, g2, g3, g4, g5, g6, g7⟩ := bx_did y1
  clear v1 z1 y1 C Z Y
  simp only [bkt]
  go_wp2
  (try simp only [Exit.inBlock, Exit.then])
  obtain ⟨wM, hwM⟩ : ∃ x, x = (((((((w1.setCell ⟨w.heap.size + 1 + 1 + 1, 0, none⟩ (.string d.name)).setCell ⟨w.heap.size + 1 + 1 + 1, 1, none⟩ (.int .i64 d.st)).setCell ⟨w.heap.size + 1 + 1 + 1, 2, none⟩ (.slice A d.L.length c)).setCell ⟨w.heap.size + 1 + 1 + 1, 3, none⟩ (.slice A' d.U.length c')).setCell ⟨w.heap.size + 1 + 1 + 1, 4, none⟩ (.int .u64 (d.last : Nat))).setCell ⟨w.heap.size + 1 + 1 + 1, 5, none⟩ (.int .u64 (n : Nat))).setCell ⟨w.heap.size + 1 + 1 + 1, 7, none⟩ (.int .i64 (k : Nat))) := ⟨_, rfl⟩
  rw [← hwM]
  have gM : Kp (w.heap.size + 1 + 1 + 1) w1 wM := by rw [hwM]; exact ((((((((Kp.of (Q.refl _)).set 0 _).set 1 _).set 2 _).set 3 _).set 4 _).set 5 _).set 7 _)
  have yM := gM.bx YY.out (by omega)
  have vM := V.out.kp (show Calm w1 (w.heap.size + 1 + 1 + 1) from ⟨_, _, ZZ.out, rfl⟩) gM
  have qM := gM.q QQ.out (by omega)
  obtain ⟨wC, hwC⟩ : ∃ x, x = ((((((((wM.setCell ⟨w.heap.size + 1 + 1, 0, none⟩ (.string d.name)).setCell ⟨w.heap.size + 1 + 1, 1, none⟩ (.int .i64 d.st)).setCell ⟨w.heap.size + 1 + 1, 2, none⟩ (.slice A d.L.length c)).setCell ⟨w.heap.size + 1 + 1, 3, none⟩ (.slice A' d.U.length c')).setCell ⟨w.heap.size + 1 + 1, 4, none⟩ (.int .u64 (d.last : Nat))).setCell ⟨w.heap.size + 1 + 1, 5, none⟩ (.int .u64 (n : Nat))).setCell ⟨w.heap.size + 1 + 1, 6, none⟩ (.string ⟨#[]⟩)).setCell ⟨w.heap.size + 1 + 1, 7, none⟩ (.int .i64 (k : Nat))) := ⟨_, rfl⟩
  rw [← hwC]
  have bC : Bx wC (w.heap.size + 1 + 1) 34 (didC d (.slice A d.L.length c) (.slice A' d.U.length c') (n + 0) noS k) := by rw [hwC]; have h := (did_all (y0 := .string d.name) (y1 := .int .i64 d.st) (y2 := .slice A d.L.length c) (y3 := .slice A' d.U.length c') (y4 := .int .u64 (d.last : Nat)) (y5 := .int .u64 (n : Nat)) (y6 := .string ⟨#[]⟩) (y7 := .int .i64 (k : Nat)) yM).1; first | exact h | (simp only [didC, Nat.zero_add, Nat.add_zero]; exact h)
  have gC : Kp (w.heap.size + 1 + 1) wM wC := by rw [hwC]; exact (did_all yM).2
  have vC := vM.kp (show Calm wM (w.heap.size + 1 + 1) from ⟨_, _, yM, rfl⟩) gC
  have qC := gC.q qM (by omega)
  clear hwM hwC gM yM vM qM gC
  obtain ⟨⟨v0, v1, v2, v3, v4, v5, v6, v7⟩, -⟩ := bx_did (show Bx wC (w.heap.size + 1 + 1) 34 #[.string d.name, .int .i64 d.st, .slice A d.L.length c, .slice A' d.U.length c', .int .u64 (d.last : Nat), .int .u64 (((n + 0) : Nat) : Int), .string noS, .int .i64 (k : Nat)] from bC)
  refine bodyPost_ret (v := didV d (.slice A d.L.length c) (.slice A' d.U.length c') (n + 0) noS k) ?_ rfl ⟨A, c, A', c', rfl, vC, qC⟩
  simp [results, Tryz.results12, go_sem, v0, v1, v2, v3, v4, v5, v6, v7, didV, didC]
set_option maxHeartbeats 16000000 in
theorem do1_any (b : Bkt) (lv uv : Value) (a : Actn) (pv : Value) (w : World) (d : Bkt) (n t : Nat) (s : ByteArray) (k : Nat) (hr : a.kind % 9 = 1) (hF : FinC b (PutR b a.key a.data a.tm) d n t s k) (ha : okA9 a) (hkey : a.key.size ≤ 1000) (hPl : a.P.length ≤ 1000) (hn : b.name.size ≤ 1000) (hs : smE b.L) (hu : smL b.U) (hv : BktV w b lv uv) (hp : Pces w w.heap.size pv a.P) :
    Calls Tryz.prog 12 #[bkt b lv uv, actV a pv] w fun e w' => ∃ A c A' c', e = .returned (didV d (.slice A d.L.length c) (.slice A' d.U.length c') (n + t) s k) ∧ BktV w' d (.slice A d.L.length c) (.slice A' d.U.length c') ∧ Q w w' := by
  obtain ⟨A1, c1, rfl⟩ := hv.1.form
  obtain ⟨A2, c2, rfl⟩ := hv.2.form
  obtain ⟨A3, c3, rfl⟩ := hp.form
  obtain ⟨hkd, -, hdat, -, hnn, htm, -⟩ := ha
  obtain ⟨rfl, rfl⟩ : t = 0 ∧ s = noS := fin_of (P := fun _ t s => t = 0 ∧ s = noS) hF ⟨rfl, rfl⟩ (fun _ _ _ _ _ h => ⟨h.2.1, h.2.2⟩)
  have q0 : Q w ((((w.alloc (.cells (bcl b (.slice A1 b.L.length c1) (.slice A2 b.U.length c2)) 26)).alloc (.cells (acl a (.slice A3 a.P.length c3)) 29)).alloc (.cells #[.string ⟨#[]⟩, .int .i64 0, .slice none 0 0, .slice none 0 0, .int .u64 0, .int .u64 0, .string ⟨#[]⟩, .int .i64 0] 34)).alloc (.cells #[.string ⟨#[]⟩, .int .i64 0, .slice none 0 0, .slice none 0 0, .int .u64 0, .int .u64 0, .string ⟨#[]⟩, .int .i64 0] 34)) := ((((Q.refl w).alloc _).alloc _).alloc _).alloc _
  have C := Lib.hid fun x (q : Q w x) => bPut_any b (.slice A1 b.L.length c1) (.slice A2 b.U.length c2) x a.key a.data a.tm d _ _ _ k hF hn hs hu hkey hdat htm.1 htm.2 (hv.on q)
  have Z0 := Bx.new (((w.alloc (.cells (bcl b (.slice A1 b.L.length c1) (.slice A2 b.U.length c2)) 26)).alloc (.cells (acl a (.slice A3 a.P.length c3)) 29)).alloc (.cells #[.string ⟨#[]⟩, .int .i64 0, .slice none 0 0, .slice none 0 0, .int .u64 0, .int .u64 0, .string ⟨#[]⟩, .int .i64 0] 34)) 34 #[.string ⟨#[]⟩, .int .i64 0, .slice none 0 0, .slice none 0 0, .int .u64 0, .int .u64 0, .string ⟨#[]⟩, .int .i64 0]
  have Y0 := (Bx.new ((w.alloc (.cells (bcl b (.slice A1 b.L.length c1) (.slice A2 b.U.length c2)) 26)).alloc (.cells (acl a (.slice A3 a.P.length c3)) 29)) 34 #[.string ⟨#[]⟩, .int .i64 0, .slice none 0 0, .slice none 0 0, .int .u64 0, .int .u64 0, .string ⟨#[]⟩, .int .i64 0]).alloc (.cells #[.string ⟨#[]⟩, .int .i64 0, .slice none 0 0, .slice none 0 0, .int .u64 0, .int .u64 0, .string ⟨#[]⟩, .int .i64 0] 34)
  simp only [World.size_alloc] at Z0 Y0
  have Z := Lib.hid Z0
  have Y := Lib.hid Y0
  have hk9 : (a.kind : Int) % 9 = 1 := by omega
  obtain ⟨kd, hkd2⟩ : ∃ kd : Int, kd = (a.kind : Int) := ⟨_, rfl⟩
  have HKT : Hid (kd.tmod 9 = 1) := Lib.hid (by rw [hkd2, Int.tmod_eq_emod_of_nonneg (by omega), hk9])
  have HKD := Lib.hid hkd2
  clear hF hn hs hu hv hp hr Z0 Y0 hk9 hkd hkey hPl hdat hnn htm
  simp only [bkt] at C
  rw [actV, acl, bkt]
  rw [← hkd2]
  clear hkd2
  go_enter Tryz.func12, Tryz.ntmps12
  go_upto_region 4 with fail
  rw [HKT.out]
  have hkd3 := HKD.out
  clear HKT HKD
  subst hkd3
  go_wp2_with fail
  refine (C.out _ q0).mono ?_
  rintro e w1 ⟨A, c, A', c', rfl, v1, q1⟩
  have z1 := Z.out.on q1
  have y1 := Y.out.on q1
  have V := Lib.hid v1
  have ZZ := Lib.hid z1
  have YY := Lib.hid y1
  have QQ := Lib.hid (q0.trans q1)
  obtain ⟨⟨r0, r1, r2, r3, r4, r5, r6, r7⟩, f0, f1, f2, f3, f4, f5, f6, f7⟩ := bx_did z1
  obtain ⟨⟨s0, s1, s2, s3, s4, s5, s6, s7⟩, g0, g1, g2, g3, g4, g5, g6, g7⟩ := bx_did y1
  clear v1 z1 y1 C Z Y
  simp only [bkt]
  go_wp2
  (try simp only [Exit.inBlock, Exit.then])
  obtain ⟨wM, hwM⟩ : ∃ x, x = (((((((w1.setCell ⟨w.heap.size + 1 + 1 + 1, 0, none⟩ (.string d.name)).setCell ⟨w.heap.size + 1 + 1 + 1, 1, none⟩ (.int .i64 d.st)).setCell ⟨w.heap.size + 1 + 1 + 1, 2, none⟩ (.slice A d.L.length c)).setCell ⟨w.heap.size + 1 + 1 + 1, 3, none⟩ (.slice A' d.U.length c')).setCell ⟨w.heap.size + 1 + 1 + 1, 4, none⟩ (.int .u64 (d.last : Nat))).setCell ⟨w.heap.size + 1 + 1 + 1, 5, none⟩ (.int .u64 (n : Nat))).setCell ⟨w.heap.size + 1 + 1 + 1, 7, none⟩ (.int .i64 (k : Nat))) := ⟨_, rfl⟩
  rw [← hwM]
  have gM : Kp (w.heap.size + 1 + 1 + 1) w1 wM := by rw [hwM]; exact ((((((((Kp.of (Q.refl _)).set 0 _).set 1 _).set 2 _).set 3 _).set 4 _).set 5 _).set 7 _)
  have yM := gM.bx YY.out (by omega)
  have vM := V.out.kp (show Calm w1 (w.heap.size + 1 + 1 + 1) from ⟨_, _, ZZ.out, rfl⟩) gM
  have qM := gM.q QQ.out (by omega)
  obtain ⟨wC, hwC⟩ : ∃ x, x = ((((((((wM.setCell ⟨w.heap.size + 1 + 1, 0, none⟩ (.string d.name)).setCell ⟨w.heap.size + 1 + 1, 1, none⟩ (.int .i64 d.st)).setCell ⟨w.heap.size + 1 + 1, 2, none⟩ (.slice A d.L.length c)).setCell ⟨w.heap.size + 1 + 1, 3, none⟩ (.slice A' d.U.length c')).setCell ⟨w.heap.size + 1 + 1, 4, none⟩ (.int .u64 (d.last : Nat))).setCell ⟨w.heap.size + 1 + 1, 5, none⟩ (.int .u64 (n : Nat))).setCell ⟨w.heap.size + 1 + 1, 6, none⟩ (.string ⟨#[]⟩)).setCell ⟨w.heap.size + 1 + 1, 7, none⟩ (.int .i64 (k : Nat))) := ⟨_, rfl⟩
  rw [← hwC]
  have bC : Bx wC (w.heap.size + 1 + 1) 34 (didC d (.slice A d.L.length c) (.slice A' d.U.length c') (n + 0) noS k) := by rw [hwC]; have h := (did_all (y0 := .string d.name) (y1 := .int .i64 d.st) (y2 := .slice A d.L.length c) (y3 := .slice A' d.U.length c') (y4 := .int .u64 (d.last : Nat)) (y5 := .int .u64 (n : Nat)) (y6 := .string ⟨#[]⟩) (y7 := .int .i64 (k : Nat)) yM).1; first | exact h | (simp only [didC, Nat.zero_add, Nat.add_zero]; exact h)
  have gC : Kp (w.heap.size + 1 + 1) wM wC := by rw [hwC]; exact (did_all yM).2
  have vC := vM.kp (show Calm wM (w.heap.size + 1 + 1) from ⟨_, _, yM, rfl⟩) gC
  have qC := gC.q qM (by omega)
  clear hwM hwC gM yM vM qM gC
  obtain ⟨⟨v0, v1, v2, v3, v4, v5, v6, v7⟩, -⟩ := bx_did (show Bx wC (w.heap.size + 1 + 1) 34 #[.string d.name, .int .i64 d.st, .slice A d.L.length c, .slice A' d.U.length c', .int .u64 (d.last : Nat), .int .u64 (((n + 0) : Nat) : Int), .string noS, .int .i64 (k : Nat)] from bC)
  refine bodyPost_ret (v := didV d (.slice A d.L.length c) (.slice A' d.U.length c') (n + 0) noS k) ?_ rfl ⟨A, c, A', c', rfl, vC, qC⟩
  simp [results, Tryz.results12, go_sem, v0, v1, v2, v3, v4, v5, v6, v7, didV, didC]
set_option maxHeartbeats 16000000 in
theorem do2_any (b : Bkt) (lv uv : Value) (a : Actn) (pv : Value) (w : World) (d : Bkt) (n t : Nat) (s : ByteArray) (k : Nat) (hr : a.kind % 9 = 2) (hF : FinC b (DelR b a.key a.tm) d n t s k) (ha : okA9 a) (hkey : a.key.size ≤ 1000) (hPl : a.P.length ≤ 1000) (hn : b.name.size ≤ 1000) (hs : smE b.L) (hu : smL b.U) (hv : BktV w b lv uv) (hp : Pces w w.heap.size pv a.P) :
    Calls Tryz.prog 12 #[bkt b lv uv, actV a pv] w fun e w' => ∃ A c A' c', e = .returned (didV d (.slice A d.L.length c) (.slice A' d.U.length c') (n + t) s k) ∧ BktV w' d (.slice A d.L.length c) (.slice A' d.U.length c') ∧ Q w w' := by
  obtain ⟨A1, c1, rfl⟩ := hv.1.form
  obtain ⟨A2, c2, rfl⟩ := hv.2.form
  obtain ⟨A3, c3, rfl⟩ := hp.form
  obtain ⟨hkd, -, hdat, -, hnn, htm, -⟩ := ha
  obtain ⟨rfl, rfl⟩ : t = 0 ∧ s = noS := fin_of (P := fun _ t s => t = 0 ∧ s = noS) hF ⟨rfl, rfl⟩ (fun _ _ _ _ _ h => ⟨h.2.1, h.2.2⟩)
  have q0 : Q w ((((w.alloc (.cells (bcl b (.slice A1 b.L.length c1) (.slice A2 b.U.length c2)) 26)).alloc (.cells (acl a (.slice A3 a.P.length c3)) 29)).alloc (.cells #[.string ⟨#[]⟩, .int .i64 0, .slice none 0 0, .slice none 0 0, .int .u64 0, .int .u64 0, .string ⟨#[]⟩, .int .i64 0] 34)).alloc (.cells #[.string ⟨#[]⟩, .int .i64 0, .slice none 0 0, .slice none 0 0, .int .u64 0, .int .u64 0, .string ⟨#[]⟩, .int .i64 0] 34)) := ((((Q.refl w).alloc _).alloc _).alloc _).alloc _
  have C := Lib.hid fun x (q : Q w x) => bDelete_any b (.slice A1 b.L.length c1) (.slice A2 b.U.length c2) x a.key a.tm d _ _ _ k hF hn hs hu hkey htm.1 htm.2 (hv.on q)
  have Z0 := Bx.new (((w.alloc (.cells (bcl b (.slice A1 b.L.length c1) (.slice A2 b.U.length c2)) 26)).alloc (.cells (acl a (.slice A3 a.P.length c3)) 29)).alloc (.cells #[.string ⟨#[]⟩, .int .i64 0, .slice none 0 0, .slice none 0 0, .int .u64 0, .int .u64 0, .string ⟨#[]⟩, .int .i64 0] 34)) 34 #[.string ⟨#[]⟩, .int .i64 0, .slice none 0 0, .slice none 0 0, .int .u64 0, .int .u64 0, .string ⟨#[]⟩, .int .i64 0]
  have Y0 := (Bx.new ((w.alloc (.cells (bcl b (.slice A1 b.L.length c1) (.slice A2 b.U.length c2)) 26)).alloc (.cells (acl a (.slice A3 a.P.length c3)) 29)) 34 #[.string ⟨#[]⟩, .int .i64 0, .slice none 0 0, .slice none 0 0, .int .u64 0, .int .u64 0, .string ⟨#[]⟩, .int .i64 0]).alloc (.cells #[.string ⟨#[]⟩, .int .i64 0, .slice none 0 0, .slice none 0 0, .int .u64 0, .int .u64 0, .string ⟨#[]⟩, .int .i64 0] 34)
  simp only [World.size_alloc] at Z0 Y0
  have Z := Lib.hid Z0
  have Y := Lib.hid Y0
  have hk9 : (a.kind : Int) % 9 = 2 := by omega
  obtain ⟨kd, hkd2⟩ : ∃ kd : Int, kd = (a.kind : Int) := ⟨_, rfl⟩
  have HKT : Hid (kd.tmod 9 = 2) := Lib.hid (by rw [hkd2, Int.tmod_eq_emod_of_nonneg (by omega), hk9])
  have HKD := Lib.hid hkd2
  clear hF hn hs hu hv hp hr Z0 Y0 hk9 hkd hkey hPl hdat hnn htm
  simp only [bkt] at C
  rw [actV, acl, bkt]
  rw [← hkd2]
  clear hkd2
  go_enter Tryz.func12, Tryz.ntmps12
  go_upto_region 4 with fail
  rw [HKT.out]
  have hkd3 := HKD.out
  clear HKT HKD
  subst hkd3
  go_wp2_with fail
  refine (C.out _ q0).mono ?_
  rintro e w1 ⟨A, c, A', c', rfl, v1, q1⟩
  have z1 := Z.out.on q1
  have y1 := Y.out.on q1
  have V := Lib.hid v1
  have ZZ := Lib.hid z1
  have YY := Lib.hid y1
  have QQ := Lib.hid (q0.trans q1)
  obtain ⟨⟨r0, r1, r2, r3, r4, r5, r6, r7⟩, f0, f1, f2, f3, f4, f5, f6, f7⟩ := bx_did z1
  obtain ⟨⟨s0, s1, s2, s3, s4, s5, s6, s7⟩, g0, g1, g2, g3, g4, g5, g6, g7⟩ := bx_did y1
  clear v1 z1 y1 C Z Y
  simp only [bkt]
  go_wp2
  (try simp only [Exit.inBlock, Exit.then])
  obtain ⟨wM, hwM⟩ : ∃ x, x = (((((((w1.setCell ⟨w.heap.size + 1 + 1 + 1, 0, none⟩ (.string d.name)).setCell ⟨w.heap.size + 1 + 1 + 1, 1, none⟩ (.int .i64 d.st)).setCell ⟨w.heap.size + 1 + 1 + 1, 2, none⟩ (.slice A d.L.length c)).setCell ⟨w.heap.size + 1 + 1 + 1, 3, none⟩ (.slice A' d.U.length c')).setCell ⟨w.heap.size + 1 + 1 + 1, 4, none⟩ (.int .u64 (d.last : Nat))).setCell ⟨w.heap.size + 1 + 1 + 1, 5, none⟩ (.int .u64 (n : Nat))).setCell ⟨w.heap.size + 1 + 1 + 1, 7, none⟩ (.int .i64 (k : Nat))) := ⟨_, rfl⟩
  rw [← hwM]
  have gM : Kp (w.heap.size + 1 + 1 + 1) w1 wM := by rw [hwM]; exact ((((((((Kp.of (Q.refl _)).set 0 _).set 1 _).set 2 _).set 3 _).set 4 _).set 5 _).set 7 _)
  have yM := gM.bx YY.out (by omega)
  have vM := V.out.kp (show Calm w1 (w.heap.size + 1 + 1 + 1) from ⟨_, _, ZZ.out, rfl⟩) gM
  have qM := gM.q QQ.out (by omega)
  obtain ⟨wC, hwC⟩ : ∃ x, x = ((((((((wM.setCell ⟨w.heap.size + 1 + 1, 0, none⟩ (.string d.name)).setCell ⟨w.heap.size + 1 + 1, 1, none⟩ (.int .i64 d.st)).setCell ⟨w.heap.size + 1 + 1, 2, none⟩ (.slice A d.L.length c)).setCell ⟨w.heap.size + 1 + 1, 3, none⟩ (.slice A' d.U.length c')).setCell ⟨w.heap.size + 1 + 1, 4, none⟩ (.int .u64 (d.last : Nat))).setCell ⟨w.heap.size + 1 + 1, 5, none⟩ (.int .u64 (n : Nat))).setCell ⟨w.heap.size + 1 + 1, 6, none⟩ (.string ⟨#[]⟩)).setCell ⟨w.heap.size + 1 + 1, 7, none⟩ (.int .i64 (k : Nat))) := ⟨_, rfl⟩
  rw [← hwC]
  have bC : Bx wC (w.heap.size + 1 + 1) 34 (didC d (.slice A d.L.length c) (.slice A' d.U.length c') (n + 0) noS k) := by rw [hwC]; have h := (did_all (y0 := .string d.name) (y1 := .int .i64 d.st) (y2 := .slice A d.L.length c) (y3 := .slice A' d.U.length c') (y4 := .int .u64 (d.last : Nat)) (y5 := .int .u64 (n : Nat)) (y6 := .string ⟨#[]⟩) (y7 := .int .i64 (k : Nat)) yM).1; first | exact h | (simp only [didC, Nat.zero_add, Nat.add_zero]; exact h)
  have gC : Kp (w.heap.size + 1 + 1) wM wC := by rw [hwC]; exact (did_all yM).2
  have vC := vM.kp (show Calm wM (w.heap.size + 1 + 1) from ⟨_, _, yM, rfl⟩) gC
  have qC := gC.q qM (by omega)
  clear hwM hwC gM yM vM qM gC
  obtain ⟨⟨v0, v1, v2, v3, v4, v5, v6, v7⟩, -⟩ := bx_did (show Bx wC (w.heap.size + 1 + 1) 34 #[.string d.name, .int .i64 d.st, .slice A d.L.length c, .slice A' d.U.length c', .int .u64 (d.last : Nat), .int .u64 (((n + 0) : Nat) : Int), .string noS, .int .i64 (k : Nat)] from bC)
  refine bodyPost_ret (v := didV d (.slice A d.L.length c) (.slice A' d.U.length c') (n + 0) noS k) ?_ rfl ⟨A, c, A', c', rfl, vC, qC⟩
  simp [results, Tryz.results12, go_sem, v0, v1, v2, v3, v4, v5, v6, v7, didV, didC]
set_option maxHeartbeats 16000000 in
theorem do3_any (b : Bkt) (lv uv : Value) (a : Actn) (pv : Value) (w : World) (d : Bkt) (n t : Nat) (s : ByteArray) (k : Nat) (hr : a.kind % 9 = 3) (hF : FinC b (DropR b a.key a.id) d n t s k) (ha : okA9 a) (hkey : a.key.size ≤ 1000) (hPl : a.P.length ≤ 1000) (hn : b.name.size ≤ 1000) (hs : smE b.L) (hu : smL b.U) (hv : BktV w b lv uv) (hp : Pces w w.heap.size pv a.P) :
    Calls Tryz.prog 12 #[bkt b lv uv, actV a pv] w fun e w' => ∃ A c A' c', e = .returned (didV d (.slice A d.L.length c) (.slice A' d.U.length c') (n + t) s k) ∧ BktV w' d (.slice A d.L.length c) (.slice A' d.U.length c') ∧ Q w w' := by
  obtain ⟨A1, c1, rfl⟩ := hv.1.form
  obtain ⟨A2, c2, rfl⟩ := hv.2.form
  obtain ⟨A3, c3, rfl⟩ := hp.form
  obtain ⟨hkd, -, hdat, -, hnn, htm, -⟩ := ha
  obtain ⟨rfl, rfl, rfl⟩ : n = 0 ∧ t = 0 ∧ s = noS := fin_of (P := fun n t s => n = 0 ∧ t = 0 ∧ s = noS) hF ⟨rfl, rfl, rfl⟩ (fun _ _ _ _ _ h => ⟨h.2.1, h.2.2.1, h.2.2.2⟩)
  have q0 : Q w ((((w.alloc (.cells (bcl b (.slice A1 b.L.length c1) (.slice A2 b.U.length c2)) 26)).alloc (.cells (acl a (.slice A3 a.P.length c3)) 29)).alloc (.cells #[.string ⟨#[]⟩, .int .i64 0, .slice none 0 0, .slice none 0 0, .int .u64 0, .int .u64 0, .string ⟨#[]⟩, .int .i64 0] 34)).alloc (.cells #[.string ⟨#[]⟩, .int .i64 0, .slice none 0 0, .slice none 0 0, .int .u64 0, .int .u64 0, .string ⟨#[]⟩, .int .i64 0] 34)) := ((((Q.refl w).alloc _).alloc _).alloc _).alloc _
  have C := Lib.hid fun x (q : Q w x) => bDrop_any b (.slice A1 b.L.length c1) (.slice A2 b.U.length c2) x a.key a.id d _ _ _ k hF hn hs hu hkey (hv.on q)
  have Z0 := Bx.new (((w.alloc (.cells (bcl b (.slice A1 b.L.length c1) (.slice A2 b.U.length c2)) 26)).alloc (.cells (acl a (.slice A3 a.P.length c3)) 29)).alloc (.cells #[.string ⟨#[]⟩, .int .i64 0, .slice none 0 0, .slice none 0 0, .int .u64 0, .int .u64 0, .string ⟨#[]⟩, .int .i64 0] 34)) 34 #[.string ⟨#[]⟩, .int .i64 0, .slice none 0 0, .slice none 0 0, .int .u64 0, .int .u64 0, .string ⟨#[]⟩, .int .i64 0]
  have Y0 := (Bx.new ((w.alloc (.cells (bcl b (.slice A1 b.L.length c1) (.slice A2 b.U.length c2)) 26)).alloc (.cells (acl a (.slice A3 a.P.length c3)) 29)) 34 #[.string ⟨#[]⟩, .int .i64 0, .slice none 0 0, .slice none 0 0, .int .u64 0, .int .u64 0, .string ⟨#[]⟩, .int .i64 0]).alloc (.cells #[.string ⟨#[]⟩, .int .i64 0, .slice none 0 0, .slice none 0 0, .int .u64 0, .int .u64 0, .string ⟨#[]⟩, .int .i64 0] 34)
  simp only [World.size_alloc] at Z0 Y0
  have Z := Lib.hid Z0
  have Y := Lib.hid Y0
  have hk9 : (a.kind : Int) % 9 = 3 := by omega
  obtain ⟨kd, hkd2⟩ : ∃ kd : Int, kd = (a.kind : Int) := ⟨_, rfl⟩
  have HKT : Hid (kd.tmod 9 = 3) := Lib.hid (by rw [hkd2, Int.tmod_eq_emod_of_nonneg (by omega), hk9])
  have HKD := Lib.hid hkd2
  clear hF hn hs hu hv hp hr Z0 Y0 hk9 hkd hkey hPl hdat hnn htm
  simp only [bkt] at C
  rw [actV, acl, bkt]
  rw [← hkd2]
  clear hkd2
  go_enter Tryz.func12, Tryz.ntmps12
  go_upto_region 4 with fail
  rw [HKT.out]
  have hkd3 := HKD.out
  clear HKT HKD
  subst hkd3
  go_wp2_with fail
  refine (C.out _ q0).mono ?_
  rintro e w1 ⟨A, c, A', c', rfl, v1, q1⟩
  have z1 := Z.out.on q1
  have y1 := Y.out.on q1
  have V := Lib.hid v1
  have ZZ := Lib.hid z1
  have YY := Lib.hid y1
  have QQ := Lib.hid (q0.trans q1)
  obtain ⟨⟨r0, r1, r2, r3, r4, r5, r6, r7⟩, f0, f1, f2, f3, f4, f5, f6, f7⟩ := bx_did z1
  obtain ⟨⟨s0, s1, s2, s3, s4, s5, s6, s7⟩, g0, g1, g2, g3, g4, g5, g6, g7⟩ := bx_did y1
  clear v1 z1 y1 C Z Y
  simp only [bkt]
  go_wp2
  (try simp only [Exit.inBlock, Exit.then])
  obtain ⟨wM, hwM⟩ : ∃ x, x = ((((((w1.setCell ⟨w.heap.size + 1 + 1 + 1, 0, none⟩ (.string d.name)).setCell ⟨w.heap.size + 1 + 1 + 1, 1, none⟩ (.int .i64 d.st)).setCell ⟨w.heap.size + 1 + 1 + 1, 2, none⟩ (.slice A d.L.length c)).setCell ⟨w.heap.size + 1 + 1 + 1, 3, none⟩ (.slice A' d.U.length c')).setCell ⟨w.heap.size + 1 + 1 + 1, 4, none⟩ (.int .u64 (d.last : Nat))).setCell ⟨w.heap.size + 1 + 1 + 1, 7, none⟩ (.int .i64 (k : Nat))) := ⟨_, rfl⟩
  rw [← hwM]
  have gM : Kp (w.heap.size + 1 + 1 + 1) w1 wM := by rw [hwM]; exact (((((((Kp.of (Q.refl _)).set 0 _).set 1 _).set 2 _).set 3 _).set 4 _).set 7 _)
  have yM := gM.bx YY.out (by omega)
  have vM := V.out.kp (show Calm w1 (w.heap.size + 1 + 1 + 1) from ⟨_, _, ZZ.out, rfl⟩) gM
  have qM := gM.q QQ.out (by omega)
  obtain ⟨wC, hwC⟩ : ∃ x, x = ((((((((wM.setCell ⟨w.heap.size + 1 + 1, 0, none⟩ (.string d.name)).setCell ⟨w.heap.size + 1 + 1, 1, none⟩ (.int .i64 d.st)).setCell ⟨w.heap.size + 1 + 1, 2, none⟩ (.slice A d.L.length c)).setCell ⟨w.heap.size + 1 + 1, 3, none⟩ (.slice A' d.U.length c')).setCell ⟨w.heap.size + 1 + 1, 4, none⟩ (.int .u64 (d.last : Nat))).setCell ⟨w.heap.size + 1 + 1, 5, none⟩ (.int .u64 0)).setCell ⟨w.heap.size + 1 + 1, 6, none⟩ (.string ⟨#[]⟩)).setCell ⟨w.heap.size + 1 + 1, 7, none⟩ (.int .i64 (k : Nat))) := ⟨_, rfl⟩
  rw [← hwC]
  have bC : Bx wC (w.heap.size + 1 + 1) 34 (didC d (.slice A d.L.length c) (.slice A' d.U.length c') (0 + 0) noS k) := by rw [hwC]; have h := (did_all (y0 := .string d.name) (y1 := .int .i64 d.st) (y2 := .slice A d.L.length c) (y3 := .slice A' d.U.length c') (y4 := .int .u64 (d.last : Nat)) (y5 := .int .u64 0) (y6 := .string ⟨#[]⟩) (y7 := .int .i64 (k : Nat)) yM).1; first | exact h | (simp only [didC, Nat.zero_add, Nat.add_zero]; exact h)
  have gC : Kp (w.heap.size + 1 + 1) wM wC := by rw [hwC]; exact (did_all yM).2
  have vC := vM.kp (show Calm wM (w.heap.size + 1 + 1) from ⟨_, _, yM, rfl⟩) gC
  have qC := gC.q qM (by omega)
  clear hwM hwC gM yM vM qM gC
  obtain ⟨⟨v0, v1, v2, v3, v4, v5, v6, v7⟩, -⟩ := bx_did (show Bx wC (w.heap.size + 1 + 1) 34 #[.string d.name, .int .i64 d.st, .slice A d.L.length c, .slice A' d.U.length c', .int .u64 (d.last : Nat), .int .u64 (((0 + 0) : Nat) : Int), .string noS, .int .i64 (k : Nat)] from bC)
  refine bodyPost_ret (v := didV d (.slice A d.L.length c) (.slice A' d.U.length c') (0 + 0) noS k) ?_ rfl ⟨A, c, A', c', rfl, vC, qC⟩
  simp [results, Tryz.results12, go_sem, v0, v1, v2, v3, v4, v5, v6, v7, didV, didC]
set_option maxHeartbeats 16000000 in
theorem do4_any (b : Bkt) (lv uv : Value) (a : Actn) (pv : Value) (w : World) (d : Bkt) (n t : Nat) (s : ByteArray) (k : Nat) (hr : a.kind % 9 = 4) (hF : FinC b (TurnR b a.n) d n t s k) (ha : okA9 a) (hkey : a.key.size ≤ 1000) (hPl : a.P.length ≤ 1000) (hn : b.name.size ≤ 1000) (hs : smE b.L) (hu : smL b.U) (hv : BktV w b lv uv) (hp : Pces w w.heap.size pv a.P) :
    Calls Tryz.prog 12 #[bkt b lv uv, actV a pv] w fun e w' => ∃ A c A' c', e = .returned (didV d (.slice A d.L.length c) (.slice A' d.U.length c') (n + t) s k) ∧ BktV w' d (.slice A d.L.length c) (.slice A' d.U.length c') ∧ Q w w' := by
  obtain ⟨A1, c1, rfl⟩ := hv.1.form
  obtain ⟨A2, c2, rfl⟩ := hv.2.form
  obtain ⟨A3, c3, rfl⟩ := hp.form
  obtain ⟨hkd, -, hdat, -, hnn, htm, -⟩ := ha
  obtain ⟨rfl, rfl, rfl⟩ : n = 0 ∧ t = 0 ∧ s = noS := fin_of (P := fun n t s => n = 0 ∧ t = 0 ∧ s = noS) hF ⟨rfl, rfl, rfl⟩ (fun _ _ _ _ _ h => ⟨h.2.1, h.2.2.1, h.2.2.2⟩)
  have q0 : Q w ((((w.alloc (.cells (bcl b (.slice A1 b.L.length c1) (.slice A2 b.U.length c2)) 26)).alloc (.cells (acl a (.slice A3 a.P.length c3)) 29)).alloc (.cells #[.string ⟨#[]⟩, .int .i64 0, .slice none 0 0, .slice none 0 0, .int .u64 0, .int .u64 0, .string ⟨#[]⟩, .int .i64 0] 34)).alloc (.cells #[.string ⟨#[]⟩, .int .i64 0, .slice none 0 0, .slice none 0 0, .int .u64 0, .int .u64 0, .string ⟨#[]⟩, .int .i64 0] 34)) := ((((Q.refl w).alloc _).alloc _).alloc _).alloc _
  have C := Lib.hid fun x (q : Q w x) => bTurn_any b (.slice A1 b.L.length c1) (.slice A2 b.U.length c2) x a.n d _ _ _ k hF hn hs hu  (hv.on q)
  have Z0 := Bx.new (((w.alloc (.cells (bcl b (.slice A1 b.L.length c1) (.slice A2 b.U.length c2)) 26)).alloc (.cells (acl a (.slice A3 a.P.length c3)) 29)).alloc (.cells #[.string ⟨#[]⟩, .int .i64 0, .slice none 0 0, .slice none 0 0, .int .u64 0, .int .u64 0, .string ⟨#[]⟩, .int .i64 0] 34)) 34 #[.string ⟨#[]⟩, .int .i64 0, .slice none 0 0, .slice none 0 0, .int .u64 0, .int .u64 0, .string ⟨#[]⟩, .int .i64 0]
  have Y0 := (Bx.new ((w.alloc (.cells (bcl b (.slice A1 b.L.length c1) (.slice A2 b.U.length c2)) 26)).alloc (.cells (acl a (.slice A3 a.P.length c3)) 29)) 34 #[.string ⟨#[]⟩, .int .i64 0, .slice none 0 0, .slice none 0 0, .int .u64 0, .int .u64 0, .string ⟨#[]⟩, .int .i64 0]).alloc (.cells #[.string ⟨#[]⟩, .int .i64 0, .slice none 0 0, .slice none 0 0, .int .u64 0, .int .u64 0, .string ⟨#[]⟩, .int .i64 0] 34)
  simp only [World.size_alloc] at Z0 Y0
  have Z := Lib.hid Z0
  have Y := Lib.hid Y0
  have hk9 : (a.kind : Int) % 9 = 4 := by omega
  obtain ⟨kd, hkd2⟩ : ∃ kd : Int, kd = (a.kind : Int) := ⟨_, rfl⟩
  have HKT : Hid (kd.tmod 9 = 4) := Lib.hid (by rw [hkd2, Int.tmod_eq_emod_of_nonneg (by omega), hk9])
  have HKD := Lib.hid hkd2
  clear hF hn hs hu hv hp hr Z0 Y0 hk9 hkd hkey hPl hdat hnn htm
  simp only [bkt] at C
  rw [actV, acl, bkt]
  rw [← hkd2]
  clear hkd2
  go_enter Tryz.func12, Tryz.ntmps12
  go_upto_region 4 with fail
  rw [HKT.out]
  have hkd3 := HKD.out
  clear HKT HKD
  subst hkd3
  go_wp2_with fail
  refine (C.out _ q0).mono ?_
  rintro e w1 ⟨A, c, A', c', rfl, v1, q1⟩
  have z1 := Z.out.on q1
  have y1 := Y.out.on q1
  have V := Lib.hid v1
  have ZZ := Lib.hid z1
  have YY := Lib.hid y1
  have QQ := Lib.hid (q0.trans q1)
  obtain ⟨⟨r0, r1, r2, r3, r4, r5, r6, r7⟩, f0, f1, f2, f3, f4, f5, f6, f7⟩ := bx_did z1
  obtain ⟨⟨s0, s1, s2, s3, s4, s5, s6, s7⟩, g0, g1, g2, g3, g4, g5, g6, g7⟩ := bx_did y1
  clear v1 z1 y1 C Z Y
  simp only [bkt]
  go_wp2
  (try simp only [Exit.inBlock, Exit.then])
  obtain ⟨wM, hwM⟩ : ∃ x, x = ((((((w1.setCell ⟨w.heap.size + 1 + 1 + 1, 0, none⟩ (.string d.name)).setCell ⟨w.heap.size + 1 + 1 + 1, 1, none⟩ (.int .i64 d.st)).setCell ⟨w.heap.size + 1 + 1 + 1, 2, none⟩ (.slice A d.L.length c)).setCell ⟨w.heap.size + 1 + 1 + 1, 3, none⟩ (.slice A' d.U.length c')).setCell ⟨w.heap.size + 1 + 1 + 1, 4, none⟩ (.int .u64 (d.last : Nat))).setCell ⟨w.heap.size + 1 + 1 + 1, 7, none⟩ (.int .i64 (k : Nat))) := ⟨_, rfl⟩
  rw [← hwM]
  have gM : Kp (w.heap.size + 1 + 1 + 1) w1 wM := by rw [hwM]; exact (((((((Kp.of (Q.refl _)).set 0 _).set 1 _).set 2 _).set 3 _).set 4 _).set 7 _)
  have yM := gM.bx YY.out (by omega)
  have vM := V.out.kp (show Calm w1 (w.heap.size + 1 + 1 + 1) from ⟨_, _, ZZ.out, rfl⟩) gM
  have qM := gM.q QQ.out (by omega)
  obtain ⟨wC, hwC⟩ : ∃ x, x = ((((((((wM.setCell ⟨w.heap.size + 1 + 1, 0, none⟩ (.string d.name)).setCell ⟨w.heap.size + 1 + 1, 1, none⟩ (.int .i64 d.st)).setCell ⟨w.heap.size + 1 + 1, 2, none⟩ (.slice A d.L.length c)).setCell ⟨w.heap.size + 1 + 1, 3, none⟩ (.slice A' d.U.length c')).setCell ⟨w.heap.size + 1 + 1, 4, none⟩ (.int .u64 (d.last : Nat))).setCell ⟨w.heap.size + 1 + 1, 5, none⟩ (.int .u64 0)).setCell ⟨w.heap.size + 1 + 1, 6, none⟩ (.string ⟨#[]⟩)).setCell ⟨w.heap.size + 1 + 1, 7, none⟩ (.int .i64 (k : Nat))) := ⟨_, rfl⟩
  rw [← hwC]
  have bC : Bx wC (w.heap.size + 1 + 1) 34 (didC d (.slice A d.L.length c) (.slice A' d.U.length c') (0 + 0) noS k) := by rw [hwC]; have h := (did_all (y0 := .string d.name) (y1 := .int .i64 d.st) (y2 := .slice A d.L.length c) (y3 := .slice A' d.U.length c') (y4 := .int .u64 (d.last : Nat)) (y5 := .int .u64 0) (y6 := .string ⟨#[]⟩) (y7 := .int .i64 (k : Nat)) yM).1; first | exact h | (simp only [didC, Nat.zero_add, Nat.add_zero]; exact h)
  have gC : Kp (w.heap.size + 1 + 1) wM wC := by rw [hwC]; exact (did_all yM).2
  have vC := vM.kp (show Calm wM (w.heap.size + 1 + 1) from ⟨_, _, yM, rfl⟩) gC
  have qC := gC.q qM (by omega)
  clear hwM hwC gM yM vM qM gC
  obtain ⟨⟨v0, v1, v2, v3, v4, v5, v6, v7⟩, -⟩ := bx_did (show Bx wC (w.heap.size + 1 + 1) 34 #[.string d.name, .int .i64 d.st, .slice A d.L.length c, .slice A' d.U.length c', .int .u64 (d.last : Nat), .int .u64 (((0 + 0) : Nat) : Int), .string noS, .int .i64 (k : Nat)] from bC)
  refine bodyPost_ret (v := didV d (.slice A d.L.length c) (.slice A' d.U.length c') (0 + 0) noS k) ?_ rfl ⟨A, c, A', c', rfl, vC, qC⟩
  simp [results, Tryz.results12, go_sem, v0, v1, v2, v3, v4, v5, v6, v7, didV, didC]
set_option maxHeartbeats 16000000 in
theorem do5_any (b : Bkt) (lv uv : Value) (a : Actn) (pv : Value) (w : World) (d : Bkt) (n t : Nat) (s : ByteArray) (k : Nat) (hr : a.kind % 9 = 5) (hF : FinC b (BegR b a.key) d n t s k) (ha : okA9 a) (hkey : a.key.size ≤ 1000) (hPl : a.P.length ≤ 1000) (hn : b.name.size ≤ 1000) (hs : smE b.L) (hu : smL b.U) (hv : BktV w b lv uv) (hp : Pces w w.heap.size pv a.P) :
    Calls Tryz.prog 12 #[bkt b lv uv, actV a pv] w fun e w' => ∃ A c A' c', e = .returned (didV d (.slice A d.L.length c) (.slice A' d.U.length c') (n + t) s k) ∧ BktV w' d (.slice A d.L.length c) (.slice A' d.U.length c') ∧ Q w w' := by
  obtain ⟨A1, c1, rfl⟩ := hv.1.form
  obtain ⟨A2, c2, rfl⟩ := hv.2.form
  obtain ⟨A3, c3, rfl⟩ := hp.form
  obtain ⟨hkd, -, hdat, -, hnn, htm, -⟩ := ha
  obtain ⟨rfl, rfl⟩ : t = 0 ∧ s = noS := fin_of (P := fun _ t s => t = 0 ∧ s = noS) hF ⟨rfl, rfl⟩ (fun _ _ _ _ _ h => ⟨h.2.1, h.2.2⟩)
  have q0 : Q w ((((w.alloc (.cells (bcl b (.slice A1 b.L.length c1) (.slice A2 b.U.length c2)) 26)).alloc (.cells (acl a (.slice A3 a.P.length c3)) 29)).alloc (.cells #[.string ⟨#[]⟩, .int .i64 0, .slice none 0 0, .slice none 0 0, .int .u64 0, .int .u64 0, .string ⟨#[]⟩, .int .i64 0] 34)).alloc (.cells #[.string ⟨#[]⟩, .int .i64 0, .slice none 0 0, .slice none 0 0, .int .u64 0, .int .u64 0, .string ⟨#[]⟩, .int .i64 0] 34)) := ((((Q.refl w).alloc _).alloc _).alloc _).alloc _
  have C := Lib.hid fun x (q : Q w x) => bBegin_any b (.slice A1 b.L.length c1) (.slice A2 b.U.length c2) x a.key d _ _ _ k hF hn hs hu hkey (hv.on q)
  have Z0 := Bx.new (((w.alloc (.cells (bcl b (.slice A1 b.L.length c1) (.slice A2 b.U.length c2)) 26)).alloc (.cells (acl a (.slice A3 a.P.length c3)) 29)).alloc (.cells #[.string ⟨#[]⟩, .int .i64 0, .slice none 0 0, .slice none 0 0, .int .u64 0, .int .u64 0, .string ⟨#[]⟩, .int .i64 0] 34)) 34 #[.string ⟨#[]⟩, .int .i64 0, .slice none 0 0, .slice none 0 0, .int .u64 0, .int .u64 0, .string ⟨#[]⟩, .int .i64 0]
  have Y0 := (Bx.new ((w.alloc (.cells (bcl b (.slice A1 b.L.length c1) (.slice A2 b.U.length c2)) 26)).alloc (.cells (acl a (.slice A3 a.P.length c3)) 29)) 34 #[.string ⟨#[]⟩, .int .i64 0, .slice none 0 0, .slice none 0 0, .int .u64 0, .int .u64 0, .string ⟨#[]⟩, .int .i64 0]).alloc (.cells #[.string ⟨#[]⟩, .int .i64 0, .slice none 0 0, .slice none 0 0, .int .u64 0, .int .u64 0, .string ⟨#[]⟩, .int .i64 0] 34)
  simp only [World.size_alloc] at Z0 Y0
  have Z := Lib.hid Z0
  have Y := Lib.hid Y0
  have hk9 : (a.kind : Int) % 9 = 5 := by omega
  obtain ⟨kd, hkd2⟩ : ∃ kd : Int, kd = (a.kind : Int) := ⟨_, rfl⟩
  have HKT : Hid (kd.tmod 9 = 5) := Lib.hid (by rw [hkd2, Int.tmod_eq_emod_of_nonneg (by omega), hk9])
  have HKD := Lib.hid hkd2
  clear hF hn hs hu hv hp hr Z0 Y0 hk9 hkd hkey hPl hdat hnn htm
  simp only [bkt] at C
  rw [actV, acl, bkt]
  rw [← hkd2]
  clear hkd2
  go_enter Tryz.func12, Tryz.ntmps12
  go_upto_region 4 with fail
  rw [HKT.out]
  have hkd3 := HKD.out
  clear HKT HKD
  subst hkd3
  go_wp2_with fail
  refine (C.out _ q0).mono ?_
  rintro e w1 ⟨A, c, A', c', rfl, v1, q1⟩
  have z1 := Z.out.on q1
  have y1 := Y.out.on q1
  have V := Lib.hid v1
  have ZZ := Lib.hid z1
  have YY := Lib.hid y1
  have QQ := Lib.hid (q0.trans q1)
  obtain ⟨⟨r0, r1, r2, r3, r4, r5, r6, r7⟩, f0, f1, f2, f3, f4, f5, f6, f7⟩ := bx_did z1
  obtain ⟨⟨s0, s1, s2, s3, s4, s5, s6, s7⟩, g0, g1, g2, g3, g4, g5, g6, g7⟩ := bx_did y1
  clear v1 z1 y1 C Z Y
  simp only [bkt]
  go_wp2
  (try simp only [Exit.inBlock, Exit.then])
  obtain ⟨wM, hwM⟩ : ∃ x, x = (((((((w1.setCell ⟨w.heap.size + 1 + 1 + 1, 0, none⟩ (.string d.name)).setCell ⟨w.heap.size + 1 + 1 + 1, 1, none⟩ (.int .i64 d.st)).setCell ⟨w.heap.size + 1 + 1 + 1, 2, none⟩ (.slice A d.L.length c)).setCell ⟨w.heap.size + 1 + 1 + 1, 3, none⟩ (.slice A' d.U.length c')).setCell ⟨w.heap.size + 1 + 1 + 1, 4, none⟩ (.int .u64 (d.last : Nat))).setCell ⟨w.heap.size + 1 + 1 + 1, 5, none⟩ (.int .u64 (n : Nat))).setCell ⟨w.heap.size + 1 + 1 + 1, 7, none⟩ (.int .i64 (k : Nat))) := ⟨_, rfl⟩
  rw [← hwM]
  have gM : Kp (w.heap.size + 1 + 1 + 1) w1 wM := by rw [hwM]; exact ((((((((Kp.of (Q.refl _)).set 0 _).set 1 _).set 2 _).set 3 _).set 4 _).set 5 _).set 7 _)
  have yM := gM.bx YY.out (by omega)
  have vM := V.out.kp (show Calm w1 (w.heap.size + 1 + 1 + 1) from ⟨_, _, ZZ.out, rfl⟩) gM
  have qM := gM.q QQ.out (by omega)
  obtain ⟨wC, hwC⟩ : ∃ x, x = ((((((((wM.setCell ⟨w.heap.size + 1 + 1, 0, none⟩ (.string d.name)).setCell ⟨w.heap.size + 1 + 1, 1, none⟩ (.int .i64 d.st)).setCell ⟨w.heap.size + 1 + 1, 2, none⟩ (.slice A d.L.length c)).setCell ⟨w.heap.size + 1 + 1, 3, none⟩ (.slice A' d.U.length c')).setCell ⟨w.heap.size + 1 + 1, 4, none⟩ (.int .u64 (d.last : Nat))).setCell ⟨w.heap.size + 1 + 1, 5, none⟩ (.int .u64 (n : Nat))).setCell ⟨w.heap.size + 1 + 1, 6, none⟩ (.string ⟨#[]⟩)).setCell ⟨w.heap.size + 1 + 1, 7, none⟩ (.int .i64 (k : Nat))) := ⟨_, rfl⟩
  rw [← hwC]
  have bC : Bx wC (w.heap.size + 1 + 1) 34 (didC d (.slice A d.L.length c) (.slice A' d.U.length c') (n + 0) noS k) := by rw [hwC]; have h := (did_all (y0 := .string d.name) (y1 := .int .i64 d.st) (y2 := .slice A d.L.length c) (y3 := .slice A' d.U.length c') (y4 := .int .u64 (d.last : Nat)) (y5 := .int .u64 (n : Nat)) (y6 := .string ⟨#[]⟩) (y7 := .int .i64 (k : Nat)) yM).1; first | exact h | (simp only [didC, Nat.zero_add, Nat.add_zero]; exact h)
  have gC : Kp (w.heap.size + 1 + 1) wM wC := by rw [hwC]; exact (did_all yM).2
  have vC := vM.kp (show Calm wM (w.heap.size + 1 + 1) from ⟨_, _, yM, rfl⟩) gC
  have qC := gC.q qM (by omega)
  clear hwM hwC gM yM vM qM gC
  obtain ⟨⟨v0, v1, v2, v3, v4, v5, v6, v7⟩, -⟩ := bx_did (show Bx wC (w.heap.size + 1 + 1) 34 #[.string d.name, .int .i64 d.st, .slice A d.L.length c, .slice A' d.U.length c', .int .u64 (d.last : Nat), .int .u64 (((n + 0) : Nat) : Int), .string noS, .int .i64 (k : Nat)] from bC)
  refine bodyPost_ret (v := didV d (.slice A d.L.length c) (.slice A' d.U.length c') (n + 0) noS k) ?_ rfl ⟨A, c, A', c', rfl, vC, qC⟩
  simp [results, Tryz.results12, go_sem, v0, v1, v2, v3, v4, v5, v6, v7, didV, didC]
set_option maxHeartbeats 16000000 in
theorem do6_any (b : Bkt) (lv uv : Value) (a : Actn) (pv : Value) (w : World) (d : Bkt) (n t : Nat) (s : ByteArray) (k : Nat) (hr : a.kind % 9 = 6) (hF : FinC b (LayR b a.id ⟨a.n, a.data⟩) d n t s k) (ha : okA9 a) (hkey : a.key.size ≤ 1000) (hPl : a.P.length ≤ 1000) (hn : b.name.size ≤ 1000) (hs : smE b.L) (hu : smL b.U) (hv : BktV w b lv uv) (hp : Pces w w.heap.size pv a.P) :
    Calls Tryz.prog 12 #[bkt b lv uv, actV a pv] w fun e w' => ∃ A c A' c', e = .returned (didV d (.slice A d.L.length c) (.slice A' d.U.length c') (n + t) s k) ∧ BktV w' d (.slice A d.L.length c) (.slice A' d.U.length c') ∧ Q w w' := by
  obtain ⟨A1, c1, rfl⟩ := hv.1.form
  obtain ⟨A2, c2, rfl⟩ := hv.2.form
  obtain ⟨A3, c3, rfl⟩ := hp.form
  obtain ⟨hkd, -, hdat, -, hnn, htm, -⟩ := ha
  have ht : t < 4294967296 := fin_of (P := fun _ t _ => t < 4294967296) hF (by decide) (fun d n t s k h => by
    obtain ⟨⟨U, hL, -⟩, -⟩ := h
    cases hL with
    | yes => exact crc_lt _
    | arg => decide
    | none => decide
    | large => decide)
  have HT : Hid (IntKind.u64.wrap ((t : Nat) : Int) = ((t : Nat) : Int)) := Lib.hid (by rw [IntKind.wrap_u64]; omega)
  clear ht
  obtain ⟨rfl, rfl⟩ : n = 0 ∧ s = noS := fin_of (P := fun n _ s => n = 0 ∧ s = noS) hF ⟨rfl, rfl⟩ (fun _ _ _ _ _ h => ⟨h.2.1, h.2.2⟩)
  have q0 : Q w ((((w.alloc (.cells (bcl b (.slice A1 b.L.length c1) (.slice A2 b.U.length c2)) 26)).alloc (.cells (acl a (.slice A3 a.P.length c3)) 29)).alloc (.cells #[.string ⟨#[]⟩, .int .i64 0, .slice none 0 0, .slice none 0 0, .int .u64 0, .int .u64 0, .string ⟨#[]⟩, .int .i64 0] 34)).alloc (.cells #[.string ⟨#[]⟩, .int .i64 0, .slice none 0 0, .slice none 0 0, .int .u64 0, .int .u64 0, .string ⟨#[]⟩, .int .i64 0] 34)) := ((((Q.refl w).alloc _).alloc _).alloc _).alloc _
  have C := Lib.hid fun x (q : Q w x) => bLay_any b (.slice A1 b.L.length c1) (.slice A2 b.U.length c2) x a.id a.n a.data d _ _ _ k hF hn hs hu ⟨hnn.1, hnn.2, hdat⟩ (hv.on q)
  have Z0 := Bx.new (((w.alloc (.cells (bcl b (.slice A1 b.L.length c1) (.slice A2 b.U.length c2)) 26)).alloc (.cells (acl a (.slice A3 a.P.length c3)) 29)).alloc (.cells #[.string ⟨#[]⟩, .int .i64 0, .slice none 0 0, .slice none 0 0, .int .u64 0, .int .u64 0, .string ⟨#[]⟩, .int .i64 0] 34)) 34 #[.string ⟨#[]⟩, .int .i64 0, .slice none 0 0, .slice none 0 0, .int .u64 0, .int .u64 0, .string ⟨#[]⟩, .int .i64 0]
  have Y0 := (Bx.new ((w.alloc (.cells (bcl b (.slice A1 b.L.length c1) (.slice A2 b.U.length c2)) 26)).alloc (.cells (acl a (.slice A3 a.P.length c3)) 29)) 34 #[.string ⟨#[]⟩, .int .i64 0, .slice none 0 0, .slice none 0 0, .int .u64 0, .int .u64 0, .string ⟨#[]⟩, .int .i64 0]).alloc (.cells #[.string ⟨#[]⟩, .int .i64 0, .slice none 0 0, .slice none 0 0, .int .u64 0, .int .u64 0, .string ⟨#[]⟩, .int .i64 0] 34)
  simp only [World.size_alloc] at Z0 Y0
  have Z := Lib.hid Z0
  have Y := Lib.hid Y0
  have hk9 : (a.kind : Int) % 9 = 6 := by omega
  obtain ⟨kd, hkd2⟩ : ∃ kd : Int, kd = (a.kind : Int) := ⟨_, rfl⟩
  have HKT : Hid (kd.tmod 9 = 6) := Lib.hid (by rw [hkd2, Int.tmod_eq_emod_of_nonneg (by omega), hk9])
  have HKD := Lib.hid hkd2
  clear hF hn hs hu hv hp hr Z0 Y0 hk9 hkd hkey hPl hdat hnn htm
  simp only [bkt] at C
  rw [actV, acl, bkt]
  rw [← hkd2]
  clear hkd2
  go_enter Tryz.func12, Tryz.ntmps12
  go_upto_region 4 with fail
  rw [HKT.out]
  have hkd3 := HKD.out
  clear HKT HKD
  subst hkd3
  go_wp2_with fail
  refine (C.out _ q0).mono ?_
  rintro e w1 ⟨A, c, A', c', rfl, v1, q1⟩
  have z1 := Z.out.on q1
  have y1 := Y.out.on q1
  have V := Lib.hid v1
  have ZZ := Lib.hid z1
  have YY := Lib.hid y1
  have QQ := Lib.hid (q0.trans q1)
  obtain ⟨⟨r0, r1, r2, r3, r4, r5, r6, r7⟩, f0, f1, f2, f3, f4, f5, f6, f7⟩ := bx_did z1
  obtain ⟨⟨s0, s1, s2, s3, s4, s5, s6, s7⟩, g0, g1, g2, g3, g4, g5, g6, g7⟩ := bx_did y1
  clear v1 z1 y1 C Z Y q1
  simp only [bkt]
  go_upto_region 17 with fail
  obtain ⟨wx, hwx⟩ : ∃ x, x = (w1.alloc (.cells #[.string d.name, .int .i64 d.st, .slice A d.L.length c, .slice A' d.U.length c', .int .u64 (d.last : Nat)] 26)) := ⟨_, rfl⟩
  have qx : Q w1 wx := by rw [hwx]; exact (Q.refl w1).alloc _
  have bx : Bx wx w1.heap.size 26 (bcl d (.slice A d.L.length c) (.slice A' d.U.length c')) := by rw [hwx]; exact Bx.new _ _ _
  rw [← hwx]
  clear hwx
  have z1 := ZZ.out.on qx
  have y1 := YY.out.on qx
  have v1 := V.out.on qx
  have q1 := QQ.out.trans qx
  clear V ZZ YY QQ
  have V := Lib.hid v1
  have ZZ := Lib.hid z1
  have YY := Lib.hid y1
  have QQ := Lib.hid q1
  clear r0 r1 r2 r3 r4 r5 r6 r7 f0 f1 f2 f3 f4 f5 f6 f7 s0 s1 s2 s3 s4 s5 s6 s7 g0 g1 g2 g3 g4 g5 g6 g7
  obtain ⟨⟨r0, r1, r2, r3, r4, r5, r6, r7⟩, f0, f1, f2, f3, f4, f5, f6, f7⟩ := bx_did z1
  obtain ⟨⟨s0, s1, s2, s3, s4, s5, s6, s7⟩, g0, g1, g2, g3, g4, g5, g6, g7⟩ := bx_did y1
  obtain ⟨k0, k1, k2, k3, k4⟩ := bx_bkt bx
  clear z1 y1 v1 q1 qx bx
  go_wp2
  (try simp only [Exit.inBlock, Exit.then])
  rw [HT.out]
  obtain ⟨wM, hwM⟩ : ∃ x, x = (((((((wx.setCell ⟨w.heap.size + 1 + 1 + 1, 0, none⟩ (.string d.name)).setCell ⟨w.heap.size + 1 + 1 + 1, 1, none⟩ (.int .i64 d.st)).setCell ⟨w.heap.size + 1 + 1 + 1, 2, none⟩ (.slice A d.L.length c)).setCell ⟨w.heap.size + 1 + 1 + 1, 3, none⟩ (.slice A' d.U.length c')).setCell ⟨w.heap.size + 1 + 1 + 1, 4, none⟩ (.int .u64 (d.last : Nat))).setCell ⟨w.heap.size + 1 + 1 + 1, 5, none⟩ (.int .u64 (t : Nat))).setCell ⟨w.heap.size + 1 + 1 + 1, 7, none⟩ (.int .i64 (k : Nat))) := ⟨_, rfl⟩
  rw [← hwM]
  have gM : Kp (w.heap.size + 1 + 1 + 1) wx wM := by rw [hwM]; exact ((((((((Kp.of (Q.refl _)).set 0 _).set 1 _).set 2 _).set 3 _).set 4 _).set 5 _).set 7 _)
  have yM := gM.bx YY.out (by omega)
  have vM := V.out.kp (show Calm wx (w.heap.size + 1 + 1 + 1) from ⟨_, _, ZZ.out, rfl⟩) gM
  have qM := gM.q QQ.out (by omega)
  obtain ⟨wC, hwC⟩ : ∃ x, x = ((((((((wM.setCell ⟨w.heap.size + 1 + 1, 0, none⟩ (.string d.name)).setCell ⟨w.heap.size + 1 + 1, 1, none⟩ (.int .i64 d.st)).setCell ⟨w.heap.size + 1 + 1, 2, none⟩ (.slice A d.L.length c)).setCell ⟨w.heap.size + 1 + 1, 3, none⟩ (.slice A' d.U.length c')).setCell ⟨w.heap.size + 1 + 1, 4, none⟩ (.int .u64 (d.last : Nat))).setCell ⟨w.heap.size + 1 + 1, 5, none⟩ (.int .u64 (t : Nat))).setCell ⟨w.heap.size + 1 + 1, 6, none⟩ (.string ⟨#[]⟩)).setCell ⟨w.heap.size + 1 + 1, 7, none⟩ (.int .i64 (k : Nat))) := ⟨_, rfl⟩
  rw [← hwC]
  have bC : Bx wC (w.heap.size + 1 + 1) 34 (didC d (.slice A d.L.length c) (.slice A' d.U.length c') (0 + t) noS k) := by rw [hwC]; have h := (did_all (y0 := .string d.name) (y1 := .int .i64 d.st) (y2 := .slice A d.L.length c) (y3 := .slice A' d.U.length c') (y4 := .int .u64 (d.last : Nat)) (y5 := .int .u64 (t : Nat)) (y6 := .string ⟨#[]⟩) (y7 := .int .i64 (k : Nat)) yM).1; first | exact h | (simp only [didC, Nat.zero_add, Nat.add_zero]; exact h)
  have gC : Kp (w.heap.size + 1 + 1) wM wC := by rw [hwC]; exact (did_all yM).2
  have vC := vM.kp (show Calm wM (w.heap.size + 1 + 1) from ⟨_, _, yM, rfl⟩) gC
  have qC := gC.q qM (by omega)
  clear hwM hwC gM yM vM qM gC
  obtain ⟨⟨v0, v1, v2, v3, v4, v5, v6, v7⟩, -⟩ := bx_did (show Bx wC (w.heap.size + 1 + 1) 34 #[.string d.name, .int .i64 d.st, .slice A d.L.length c, .slice A' d.U.length c', .int .u64 (d.last : Nat), .int .u64 (((0 + t) : Nat) : Int), .string noS, .int .i64 (k : Nat)] from bC)
  refine bodyPost_ret (v := didV d (.slice A d.L.length c) (.slice A' d.U.length c') (0 + t) noS k) ?_ rfl ⟨A, c, A', c', rfl, vC, qC⟩
  simp [results, Tryz.results12, go_sem, v0, v1, v2, v3, v4, v5, v6, v7, didV, didC]
set_option maxHeartbeats 16000000 in
theorem do7_any (b : Bkt) (lv uv : Value) (a : Actn) (pv : Value) (w : World) (d : Bkt) (n t : Nat) (s : ByteArray) (k : Nat) (hr : a.kind % 9 = 7) (hF : FinC b (AboR b a.id) d n t s k) (ha : okA9 a) (hkey : a.key.size ≤ 1000) (hPl : a.P.length ≤ 1000) (hn : b.name.size ≤ 1000) (hs : smE b.L) (hu : smL b.U) (hv : BktV w b lv uv) (hp : Pces w w.heap.size pv a.P) :
    Calls Tryz.prog 12 #[bkt b lv uv, actV a pv] w fun e w' => ∃ A c A' c', e = .returned (didV d (.slice A d.L.length c) (.slice A' d.U.length c') (n + t) s k) ∧ BktV w' d (.slice A d.L.length c) (.slice A' d.U.length c') ∧ Q w w' := by
  obtain ⟨A1, c1, rfl⟩ := hv.1.form
  obtain ⟨A2, c2, rfl⟩ := hv.2.form
  obtain ⟨A3, c3, rfl⟩ := hp.form
  obtain ⟨hkd, -, hdat, -, hnn, htm, -⟩ := ha
  obtain ⟨rfl, rfl, rfl⟩ : n = 0 ∧ t = 0 ∧ s = noS := fin_of (P := fun n t s => n = 0 ∧ t = 0 ∧ s = noS) hF ⟨rfl, rfl, rfl⟩ (fun _ _ _ _ _ h => ⟨h.2.1, h.2.2.1, h.2.2.2⟩)
  have q0 : Q w ((((w.alloc (.cells (bcl b (.slice A1 b.L.length c1) (.slice A2 b.U.length c2)) 26)).alloc (.cells (acl a (.slice A3 a.P.length c3)) 29)).alloc (.cells #[.string ⟨#[]⟩, .int .i64 0, .slice none 0 0, .slice none 0 0, .int .u64 0, .int .u64 0, .string ⟨#[]⟩, .int .i64 0] 34)).alloc (.cells #[.string ⟨#[]⟩, .int .i64 0, .slice none 0 0, .slice none 0 0, .int .u64 0, .int .u64 0, .string ⟨#[]⟩, .int .i64 0] 34)) := ((((Q.refl w).alloc _).alloc _).alloc _).alloc _
  have C := Lib.hid fun x (q : Q w x) => bAbort_any b (.slice A1 b.L.length c1) (.slice A2 b.U.length c2) x a.id d _ _ _ k hF hn hs hu  (hv.on q)
  have Z0 := Bx.new (((w.alloc (.cells (bcl b (.slice A1 b.L.length c1) (.slice A2 b.U.length c2)) 26)).alloc (.cells (acl a (.slice A3 a.P.length c3)) 29)).alloc (.cells #[.string ⟨#[]⟩, .int .i64 0, .slice none 0 0, .slice none 0 0, .int .u64 0, .int .u64 0, .string ⟨#[]⟩, .int .i64 0] 34)) 34 #[.string ⟨#[]⟩, .int .i64 0, .slice none 0 0, .slice none 0 0, .int .u64 0, .int .u64 0, .string ⟨#[]⟩, .int .i64 0]
  have Y0 := (Bx.new ((w.alloc (.cells (bcl b (.slice A1 b.L.length c1) (.slice A2 b.U.length c2)) 26)).alloc (.cells (acl a (.slice A3 a.P.length c3)) 29)) 34 #[.string ⟨#[]⟩, .int .i64 0, .slice none 0 0, .slice none 0 0, .int .u64 0, .int .u64 0, .string ⟨#[]⟩, .int .i64 0]).alloc (.cells #[.string ⟨#[]⟩, .int .i64 0, .slice none 0 0, .slice none 0 0, .int .u64 0, .int .u64 0, .string ⟨#[]⟩, .int .i64 0] 34)
  simp only [World.size_alloc] at Z0 Y0
  have Z := Lib.hid Z0
  have Y := Lib.hid Y0
  have hk9 : (a.kind : Int) % 9 = 7 := by omega
  obtain ⟨kd, hkd2⟩ : ∃ kd : Int, kd = (a.kind : Int) := ⟨_, rfl⟩
  have HKT : Hid (kd.tmod 9 = 7) := Lib.hid (by rw [hkd2, Int.tmod_eq_emod_of_nonneg (by omega), hk9])
  have HKD := Lib.hid hkd2
  clear hF hn hs hu hv hp hr Z0 Y0 hk9 hkd hkey hPl hdat hnn htm
  simp only [bkt] at C
  rw [actV, acl, bkt]
  rw [← hkd2]
  clear hkd2
  go_enter Tryz.func12, Tryz.ntmps12
  go_upto_region 4 with fail
  rw [HKT.out]
  have hkd3 := HKD.out
  clear HKT HKD
  subst hkd3
  go_wp2_with fail
  refine (C.out _ q0).mono ?_
  rintro e w1 ⟨A, c, A', c', rfl, v1, q1⟩
  have z1 := Z.out.on q1
  have y1 := Y.out.on q1
  have V := Lib.hid v1
  have ZZ := Lib.hid z1
  have YY := Lib.hid y1
  have QQ := Lib.hid (q0.trans q1)
  obtain ⟨⟨r0, r1, r2, r3, r4, r5, r6, r7⟩, f0, f1, f2, f3, f4, f5, f6, f7⟩ := bx_did z1
  obtain ⟨⟨s0, s1, s2, s3, s4, s5, s6, s7⟩, g0, g1, g2, g3, g4, g5, g6, g7⟩ := bx_did y1
  clear v1 z1 y1 C Z Y
  simp only [bkt]
  go_wp2
  (try simp only [Exit.inBlock, Exit.then])
  obtain ⟨wM, hwM⟩ : ∃ x, x = ((((((w1.setCell ⟨w.heap.size + 1 + 1 + 1, 0, none⟩ (.string d.name)).setCell ⟨w.heap.size + 1 + 1 + 1, 1, none⟩ (.int .i64 d.st)).setCell ⟨w.heap.size + 1 + 1 + 1, 2, none⟩ (.slice A d.L.length c)).setCell ⟨w.heap.size + 1 + 1 + 1, 3, none⟩ (.slice A' d.U.length c')).setCell ⟨w.heap.size + 1 + 1 + 1, 4, none⟩ (.int .u64 (d.last : Nat))).setCell ⟨w.heap.size + 1 + 1 + 1, 7, none⟩ (.int .i64 (k : Nat))) := ⟨_, rfl⟩
  rw [← hwM]
  have gM : Kp (w.heap.size + 1 + 1 + 1) w1 wM := by rw [hwM]; exact (((((((Kp.of (Q.refl _)).set 0 _).set 1 _).set 2 _).set 3 _).set 4 _).set 7 _)
  have yM := gM.bx YY.out (by omega)
  have vM := V.out.kp (show Calm w1 (w.heap.size + 1 + 1 + 1) from ⟨_, _, ZZ.out, rfl⟩) gM
  have qM := gM.q QQ.out (by omega)
  obtain ⟨wC, hwC⟩ : ∃ x, x = ((((((((wM.setCell ⟨w.heap.size + 1 + 1, 0, none⟩ (.string d.name)).setCell ⟨w.heap.size + 1 + 1, 1, none⟩ (.int .i64 d.st)).setCell ⟨w.heap.size + 1 + 1, 2, none⟩ (.slice A d.L.length c)).setCell ⟨w.heap.size + 1 + 1, 3, none⟩ (.slice A' d.U.length c')).setCell ⟨w.heap.size + 1 + 1, 4, none⟩ (.int .u64 (d.last : Nat))).setCell ⟨w.heap.size + 1 + 1, 5, none⟩ (.int .u64 0)).setCell ⟨w.heap.size + 1 + 1, 6, none⟩ (.string ⟨#[]⟩)).setCell ⟨w.heap.size + 1 + 1, 7, none⟩ (.int .i64 (k : Nat))) := ⟨_, rfl⟩
  rw [← hwC]
  have bC : Bx wC (w.heap.size + 1 + 1) 34 (didC d (.slice A d.L.length c) (.slice A' d.U.length c') (0 + 0) noS k) := by rw [hwC]; have h := (did_all (y0 := .string d.name) (y1 := .int .i64 d.st) (y2 := .slice A d.L.length c) (y3 := .slice A' d.U.length c') (y4 := .int .u64 (d.last : Nat)) (y5 := .int .u64 0) (y6 := .string ⟨#[]⟩) (y7 := .int .i64 (k : Nat)) yM).1; first | exact h | (simp only [didC, Nat.zero_add, Nat.add_zero]; exact h)
  have gC : Kp (w.heap.size + 1 + 1) wM wC := by rw [hwC]; exact (did_all yM).2
  have vC := vM.kp (show Calm wM (w.heap.size + 1 + 1) from ⟨_, _, yM, rfl⟩) gC
  have qC := gC.q qM (by omega)
  clear hwM hwC gM yM vM qM gC
  obtain ⟨⟨v0, v1, v2, v3, v4, v5, v6, v7⟩, -⟩ := bx_did (show Bx wC (w.heap.size + 1 + 1) 34 #[.string d.name, .int .i64 d.st, .slice A d.L.length c, .slice A' d.U.length c', .int .u64 (d.last : Nat), .int .u64 (((0 + 0) : Nat) : Int), .string noS, .int .i64 (k : Nat)] from bC)
  refine bodyPost_ret (v := didV d (.slice A d.L.length c) (.slice A' d.U.length c') (0 + 0) noS k) ?_ rfl ⟨A, c, A', c', rfl, vC, qC⟩
  simp [results, Tryz.results12, go_sem, v0, v1, v2, v3, v4, v5, v6, v7, didV, didC]
set_option maxHeartbeats 16000000 in
theorem do8_any (b : Bkt) (lv uv : Value) (a : Actn) (pv : Value) (w : World) (d : Bkt) (n t : Nat) (s : ByteArray) (k : Nat) (hr : a.kind % 9 = 8) (hF : FinC b (WhoR b a.id a.P a.tm) d n t s k) (ha : okA9 a) (hkey : a.key.size ≤ 1000) (hPl : a.P.length ≤ 1000) (hn : b.name.size ≤ 1000) (hs : smE b.L) (hu : smL b.U) (hv : BktV w b lv uv) (hp : Pces w w.heap.size pv a.P) :
    Calls Tryz.prog 12 #[bkt b lv uv, actV a pv] w fun e w' => ∃ A c A' c', e = .returned (didV d (.slice A d.L.length c) (.slice A' d.U.length c') (n + t) s k) ∧ BktV w' d (.slice A d.L.length c) (.slice A' d.U.length c') ∧ Q w w' := by
  obtain ⟨A1, c1, rfl⟩ := hv.1.form
  obtain ⟨A2, c2, rfl⟩ := hv.2.form
  obtain ⟨A3, c3, rfl⟩ := hp.form
  obtain ⟨hkd, -, hdat, -, hnn, htm, -⟩ := ha
  obtain rfl : t = 0 := fin_of (P := fun _ t _ => t = 0) hF rfl (fun _ _ _ _ _ h => h.2)
  have q0 : Q w ((((w.alloc (.cells (bcl b (.slice A1 b.L.length c1) (.slice A2 b.U.length c2)) 26)).alloc (.cells (acl a (.slice A3 a.P.length c3)) 29)).alloc (.cells #[.string ⟨#[]⟩, .int .i64 0, .slice none 0 0, .slice none 0 0, .int .u64 0, .int .u64 0, .string ⟨#[]⟩, .int .i64 0] 34)).alloc (.cells #[.string ⟨#[]⟩, .int .i64 0, .slice none 0 0, .slice none 0 0, .int .u64 0, .int .u64 0, .string ⟨#[]⟩, .int .i64 0] 34)) := ((((Q.refl w).alloc _).alloc _).alloc _).alloc _
  have C := Lib.hid fun x (q : Q w x) => bWhole_any b (.slice A1 b.L.length c1) (.slice A2 b.U.length c2) x a.id a.P A3 c3 a.tm d _ _ _ k hF hn hs hu hPl htm.1 htm.2 (hp.on q) (hv.on q)
  have Z0 := Bx.new (((w.alloc (.cells (bcl b (.slice A1 b.L.length c1) (.slice A2 b.U.length c2)) 26)).alloc (.cells (acl a (.slice A3 a.P.length c3)) 29)).alloc (.cells #[.string ⟨#[]⟩, .int .i64 0, .slice none 0 0, .slice none 0 0, .int .u64 0, .int .u64 0, .string ⟨#[]⟩, .int .i64 0] 34)) 34 #[.string ⟨#[]⟩, .int .i64 0, .slice none 0 0, .slice none 0 0, .int .u64 0, .int .u64 0, .string ⟨#[]⟩, .int .i64 0]
  have Y0 := (Bx.new ((w.alloc (.cells (bcl b (.slice A1 b.L.length c1) (.slice A2 b.U.length c2)) 26)).alloc (.cells (acl a (.slice A3 a.P.length c3)) 29)) 34 #[.string ⟨#[]⟩, .int .i64 0, .slice none 0 0, .slice none 0 0, .int .u64 0, .int .u64 0, .string ⟨#[]⟩, .int .i64 0]).alloc (.cells #[.string ⟨#[]⟩, .int .i64 0, .slice none 0 0, .slice none 0 0, .int .u64 0, .int .u64 0, .string ⟨#[]⟩, .int .i64 0] 34)
  simp only [World.size_alloc] at Z0 Y0
  have Z := Lib.hid Z0
  have Y := Lib.hid Y0
  have hk9 : (a.kind : Int) % 9 = 8 := by omega
  obtain ⟨kd, hkd2⟩ : ∃ kd : Int, kd = (a.kind : Int) := ⟨_, rfl⟩
  have HKT : Hid (kd.tmod 9 = 8) := Lib.hid (by rw [hkd2, Int.tmod_eq_emod_of_nonneg (by omega), hk9])
  have HKD := Lib.hid hkd2
  clear hF hn hs hu hv hp hr Z0 Y0 hk9 hkd hkey hPl hdat hnn htm
  simp only [bkt] at C
  rw [actV, acl, bkt]
  rw [← hkd2]
  clear hkd2
  go_enter Tryz.func12, Tryz.ntmps12
  go_upto_region 4 with fail
  rw [HKT.out]
  have hkd3 := HKD.out
  clear HKT HKD
  subst hkd3
  go_wp2_with fail
  refine (C.out _ q0).mono ?_
  rintro e w1 ⟨A, c, A', c', rfl, v1, q1⟩
  have z1 := Z.out.on q1
  have y1 := Y.out.on q1
  have V := Lib.hid v1
  have ZZ := Lib.hid z1
  have YY := Lib.hid y1
  have QQ := Lib.hid (q0.trans q1)
  obtain ⟨⟨r0, r1, r2, r3, r4, r5, r6, r7⟩, f0, f1, f2, f3, f4, f5, f6, f7⟩ := bx_did z1
  obtain ⟨⟨s0, s1, s2, s3, s4, s5, s6, s7⟩, g0, g1, g2, g3, g4, g5, g6, g7⟩ := bx_did y1
  clear v1 z1 y1 C Z Y
  simp only [bkt]
  go_wp2
  (try simp only [Exit.inBlock, Exit.then])
  obtain ⟨wM, hwM⟩ : ∃ x, x = ((((((((w1.setCell ⟨w.heap.size + 1 + 1 + 1, 0, none⟩ (.string d.name)).setCell ⟨w.heap.size + 1 + 1 + 1, 1, none⟩ (.int .i64 d.st)).setCell ⟨w.heap.size + 1 + 1 + 1, 2, none⟩ (.slice A d.L.length c)).setCell ⟨w.heap.size + 1 + 1 + 1, 3, none⟩ (.slice A' d.U.length c')).setCell ⟨w.heap.size + 1 + 1 + 1, 4, none⟩ (.int .u64 (d.last : Nat))).setCell ⟨w.heap.size + 1 + 1 + 1, 5, none⟩ (.int .u64 (n : Nat))).setCell ⟨w.heap.size + 1 + 1 + 1, 6, none⟩ (.string s)).setCell ⟨w.heap.size + 1 + 1 + 1, 7, none⟩ (.int .i64 (k : Nat))) := ⟨_, rfl⟩
  rw [← hwM]
  have gM : Kp (w.heap.size + 1 + 1 + 1) w1 wM := by rw [hwM]; exact (((((((((Kp.of (Q.refl _)).set 0 _).set 1 _).set 2 _).set 3 _).set 4 _).set 5 _).set 6 _).set 7 _)
  have yM := gM.bx YY.out (by omega)
  have vM := V.out.kp (show Calm w1 (w.heap.size + 1 + 1 + 1) from ⟨_, _, ZZ.out, rfl⟩) gM
  have qM := gM.q QQ.out (by omega)
  obtain ⟨wC, hwC⟩ : ∃ x, x = ((((((((wM.setCell ⟨w.heap.size + 1 + 1, 0, none⟩ (.string d.name)).setCell ⟨w.heap.size + 1 + 1, 1, none⟩ (.int .i64 d.st)).setCell ⟨w.heap.size + 1 + 1, 2, none⟩ (.slice A d.L.length c)).setCell ⟨w.heap.size + 1 + 1, 3, none⟩ (.slice A' d.U.length c')).setCell ⟨w.heap.size + 1 + 1, 4, none⟩ (.int .u64 (d.last : Nat))).setCell ⟨w.heap.size + 1 + 1, 5, none⟩ (.int .u64 (n : Nat))).setCell ⟨w.heap.size + 1 + 1, 6, none⟩ (.string s)).setCell ⟨w.heap.size + 1 + 1, 7, none⟩ (.int .i64 (k : Nat))) := ⟨_, rfl⟩
  rw [← hwC]
  have bC : Bx wC (w.heap.size + 1 + 1) 34 (didC d (.slice A d.L.length c) (.slice A' d.U.length c') (n + 0) s k) := by rw [hwC]; have h := (did_all (y0 := .string d.name) (y1 := .int .i64 d.st) (y2 := .slice A d.L.length c) (y3 := .slice A' d.U.length c') (y4 := .int .u64 (d.last : Nat)) (y5 := .int .u64 (n : Nat)) (y6 := .string s) (y7 := .int .i64 (k : Nat)) yM).1; first | exact h | (simp only [didC, Nat.zero_add, Nat.add_zero]; exact h)
  have gC : Kp (w.heap.size + 1 + 1) wM wC := by rw [hwC]; exact (did_all yM).2
  have vC := vM.kp (show Calm wM (w.heap.size + 1 + 1) from ⟨_, _, yM, rfl⟩) gC
  have qC := gC.q qM (by omega)
  clear hwM hwC gM yM vM qM gC
  obtain ⟨⟨v0, v1, v2, v3, v4, v5, v6, v7⟩, -⟩ := bx_did (show Bx wC (w.heap.size + 1 + 1) 34 #[.string d.name, .int .i64 d.st, .slice A d.L.length c, .slice A' d.U.length c', .int .u64 (d.last : Nat), .int .u64 (((n + 0) : Nat) : Int), .string s, .int .i64 (k : Nat)] from bC)
  refine bodyPost_ret (v := didV d (.slice A d.L.length c) (.slice A' d.U.length c') (n + 0) s k) ?_ rfl ⟨A, c, A', c', rfl, vC, qC⟩
  simp [results, Tryz.results12, go_sem, v0, v1, v2, v3, v4, v5, v6, v7, didV, didC]
/-- What is done, whatever it is. -/
theorem do_any (b : Bkt) (lv uv : Value) (a : Actn) (pv : Value) (w : World) (d : Bkt) (n t : Nat) (s : ByteArray) (k : Nat) (hF : FinC b (DoR b a) d n t s k) (ha : okA9 a) (hkey : a.key.size ≤ 1000) (hPl : a.P.length ≤ 1000) (hn : b.name.size ≤ 1000) (hs : smE b.L) (hu : smL b.U) (hv : BktV w b lv uv) (hp : Pces w w.heap.size pv a.P) :
    Calls Tryz.prog 12 #[bkt b lv uv, actV a pv] w fun e w' => ∃ A c A' c', e = .returned (didV d (.slice A d.L.length c) (.slice A' d.U.length c') (n + t) s k) ∧ BktV w' d (.slice A d.L.length c) (.slice A' d.U.length c') ∧ Q w w' := by
  have h9 : a.kind % 9 = 0 ∨ a.kind % 9 = 1 ∨ a.kind % 9 = 2 ∨ a.kind % 9 = 3 ∨ a.kind % 9 = 4 ∨ a.kind % 9 = 5 ∨ a.kind % 9 = 6 ∨ a.kind % 9 = 7 ∨ a.kind % 9 = 8 := by omega
  rcases h9 with h | h | h | h | h | h | h | h | h
  · rw [doR_0 h] at hF
    exact do0_any b lv uv a pv w d n t s k h hF ha hkey hPl hn hs hu hv hp
  · rw [doR_1 h] at hF
    exact do1_any b lv uv a pv w d n t s k h hF ha hkey hPl hn hs hu hv hp
  · rw [doR_2 h] at hF
    exact do2_any b lv uv a pv w d n t s k h hF ha hkey hPl hn hs hu hv hp
  · rw [doR_3 h] at hF
    exact do3_any b lv uv a pv w d n t s k h hF ha hkey hPl hn hs hu hv hp
  · rw [doR_4 h] at hF
    exact do4_any b lv uv a pv w d n t s k h hF ha hkey hPl hn hs hu hv hp
  · rw [doR_5 h] at hF
    exact do5_any b lv uv a pv w d n t s k h hF ha hkey hPl hn hs hu hv hp
  · rw [doR_6 h] at hF
    exact do6_any b lv uv a pv w d n t s k h hF ha hkey hPl hn hs hu hv hp
  · rw [doR_7 h] at hF
    exact do7_any b lv uv a pv w d n t s k h hF ha hkey hPl hn hs hu hv hp
  · rw [doR_8 h] at hF
    exact do8_any b lv uv a pv w d n t s k h hF ha hkey hPl hn hs hu hv hp
end Go.Proofs.YtjjlbbfhmpbneaaGreat

namespace Go.Proofs.YtjjlbbfhmpbneaaGreat
set_option maxRecDepth 100000
open Go.ChangeShapes Go.WideShapes Go.ChangeAt Go.RowKit Go.Shelf
set_option linter.unusedVariables false
set_option linter.unusedSimpArgs false
theorem array5B {α : Type} {cs : Array α} (h : cs.size = 5) : ∃ a b c d e, cs = #[a, b, c, d, e] := by
  obtain ⟨l⟩ := cs
  match l, h with
  | [a, b, c, d, e], _ => exact ⟨a, b, c, d, e, rfl⟩
theorem array7B {α : Type} {cs : Array α} (h : cs.size = 7) : ∃ a b c d e f g, cs = #[a, b, c, d, e, f, g] := by
  obtain ⟨l⟩ := cs
  match l, h with
  | [a, b, c, d, e, f, g], _ => exact ⟨a, b, c, d, e, f, g, rfl⟩
/-- A bucket that came in. -/
def InB (W : World) (b : Bkt) (lv uv : Value) : Prop := BktV W b lv uv ∧ b.name.size ≤ maxLen ∧ b.L.length ≤ maxLen ∧ b.U.length ≤ maxLen ∧ b.last < 18446744073709551616 ∧ -9223372036854775808 ≤ b.st ∧ b.st ≤ 9223372036854775807
theorem open_bkt {H : Type} {enc : TypeId × Value → H} {W : World} {b0 : Nat} {v : Value} {d : DataW H} {p : List MemPlace} (hv : Value.okWide Tryz.prog W .any b0 26 v)
    (h : DataW.Trod enc Tryz.prog W 0 (fun _ => true) true 26 v d p) :
    ∃ (b : Bkt) (lv uv : Value), v = bkt b lv uv ∧ InB W b lv uv := by
  obtain ⟨cs, rfl, hsz⟩ := okWide_struct Tryz.underlying26 hv
  have h4 : Tryz.prog.cellsOf 26 = 5 := by kernel_rfl
  rw [h4] at hsz
  obtain ⟨v0, v1, v2, v3, v4, rfl⟩ := array5B hsz
  obtain ⟨fuel, hf⟩ := h
  obtain ⟨xs, n, _, _, hl0, hlen, hg⟩ := DataW.trod_struct Tryz.underlying26 hf
  have hlen5 : xs.length = 5 := hlen
  have c0 : Tryz.prog.cellsOf 9 = 1 := by kernel_rfl
  have c1 : Tryz.prog.cellsOf 3 = 1 := by kernel_rfl
  have c2 : Tryz.prog.cellsOf 22 = 1 := by kernel_rfl
  have c3 : Tryz.prog.cellsOf 23 = 1 := by kernel_rfl
  have c4 : Tryz.prog.cellsOf 24 = 1 := by kernel_rfl
  have g0 := hg 0 _ rfl
  have g1 := hg 1 _ rfl
  have g2 := hg 2 _ rfl
  have g3 := hg 3 _ rfl
  have g4 := hg 4 _ rfl
  rw [List.getElem?_eq_getElem (by omega)] at g0 g1 g2 g3 g4
  simp [Value.cells, c0, c1, c2, c3, c4] at g0 g1 g2 g3 g4
  obtain ⟨s0, e0, -, w0⟩ := DataW.trod_string Tryz.underlying9 g0
  obtain ⟨s1, e1, -, w1⟩ := DataW.trod_int Tryz.underlying3 g1
  obtain ⟨L, hL, mL⟩ := ents_cell g2
  obtain ⟨U, hU, mU⟩ := upl_cellE g3
  obtain ⟨s4, e4, -, w4⟩ := DataW.trod_int Tryz.underlying24 g4
  simp at e0 e1 e4
  subst e0 e1 e4
  obtain ⟨i', rfl, hi'⟩ := wfu64 w4
  exact ⟨⟨s0, s1, L, U, i'⟩, v2, v3, rfl, ⟨hL, hU⟩, w0, mL, mU, hi', (wf64 w1).1, (wf64 w1).2⟩
theorem open_act {H : Type} {enc : TypeId × Value → H} {W : World} {b0 : Nat} {v : Value} {d : DataW H} {p : List MemPlace} (hv : Value.okWide Tryz.prog W .any b0 29 v)
    (h : DataW.Trod enc Tryz.prog W 0 (fun _ => true) true 29 v d p) :
    ∃ (a : Actn) (pv : Value), v = actV a pv ∧ okA9 a ∧ Pces W W.heap.size pv a.P := by
  obtain ⟨cs, rfl, hsz⟩ := okWide_struct Tryz.underlying29 hv
  have h4 : Tryz.prog.cellsOf 29 = 7 := by kernel_rfl
  rw [h4] at hsz
  obtain ⟨v0, v1, v2, v3, v4, v5, v6, rfl⟩ := array7B hsz
  obtain ⟨fuel, hf⟩ := h
  obtain ⟨xs, n, _, _, hl0, hlen, hg⟩ := DataW.trod_struct Tryz.underlying29 hf
  have hlen7 : xs.length = 7 := hlen
  have c0 : Tryz.prog.cellsOf 9 = 1 := by kernel_rfl
  have c1 : Tryz.prog.cellsOf 3 = 1 := by kernel_rfl
  have c2 : Tryz.prog.cellsOf 5 = 1 := by kernel_rfl
  have c3 : Tryz.prog.cellsOf 27 = 1 := by kernel_rfl
  have c4 : Tryz.prog.cellsOf 24 = 1 := by kernel_rfl
  have g0 := hg 0 _ rfl
  have g1 := hg 1 _ rfl
  have g2 := hg 2 _ rfl
  have g3 := hg 3 _ rfl
  have g4 := hg 4 _ rfl
  have g5 := hg 5 _ rfl
  have g6 := hg 6 _ rfl
  rw [List.getElem?_eq_getElem (by omega)] at g0 g1 g2 g3 g4 g5 g6
  simp [Value.cells, c0, c1, c2, c3, c4] at g0 g1 g2 g3 g4 g5 g6
  obtain ⟨s0, e0, -, w0⟩ := DataW.trod_int Tryz.underlying5 g0
  obtain ⟨s1, e1, -, w1⟩ := DataW.trod_string Tryz.underlying9 g1
  obtain ⟨s2, e2, -, w2⟩ := DataW.trod_string Tryz.underlying9 g2
  obtain ⟨s3, e3, -, w3⟩ := DataW.trod_int Tryz.underlying24 g3
  obtain ⟨s4, e4, -, w4⟩ := DataW.trod_int Tryz.underlying3 g4
  obtain ⟨s5, e5, -, w5⟩ := DataW.trod_int Tryz.underlying3 g5
  simp at e0 e1 e2 e3 e4 e5
  subst e0 e1 e2 e3 e4 e5
  obtain ⟨i', rfl, hi'⟩ := wfu64 w3
  obtain ⟨k', rfl, hk'⟩ : ∃ n : Nat, s0 = n ∧ n < 256 := by
    have h2 : 0 ≤ s0 ∧ s0 ≤ 255 := by simpa [Lit.wf, IntKind.min, IntKind.max, IntKind.signed, IntKind.bits] using w0
    exact ⟨s0.toNat, by omega, by omega⟩
  obtain ⟨P, hP, mP⟩ := pce_cellE g6
  exact ⟨⟨k', s1, s2, i', s4, s5, P⟩, v6, rfl, ⟨hk', w1, w2, hi', wf64 w4, wf64 w5, mP⟩, hP⟩
end Go.Proofs.YtjjlbbfhmpbneaaGreat

namespace Go.Proofs.YtjjlbbfhmpbneaaGreat
set_option maxRecDepth 100000
open Go.ChangeShapes Go.WideShapes Go.ChangeAt Go.RowKit
set_option linter.unusedVariables false
set_option linter.unusedSimpArgs false
/-- What of a version does not hang on its number. -/
def bare (x : Ver) : ByteArray × Bool × Int := (x.data, x.mark, x.tm)
/-- Chains that differ in nothing but numbers. -/
def simV (l m : List Ver) : Prop := l.map bare = m.map bare
theorem simV.nil {l m : List Ver} (h : simV l m) : l = [] ↔ m = [] := by
  have := congrArg List.length h
  simp only [List.length_map] at this
  rw [← List.length_eq_zero_iff, ← List.length_eq_zero_iff]
  omega
theorem putC_sim {l L M : List Ver} {s : Int} {x y : Ver} (hb : bare x = bare y) (h : PutC l s x L 0) (g : PutC l s y M 0) : simV L M := by
  cases h with
  | on h1 h2 h3 h4 h5 h6 h7 =>
    cases g with
    | on => simp only [simV, List.map_cons, hb]
    | over _ k => omega
  | over h1 h2 =>
    cases g with
    | on _ k => omega
    | over =>
      have : bare (zeroId x) = bare (zeroId y) := hb
      simp only [simV, List.map_cons, this]
/-- One of puts, deletes and drops at a chain. -/
def StpC (a : Actn) (l : List Ver) (st : Int) (m : Nat) (L : List Ver) : Prop :=
  ((a.kind % 9 = 0 ∨ a.kind % 9 = 1) ∧ PutC l st ⟨m, a.data, false, a.tm⟩ L 0) ∨ (a.kind % 9 = 2 ∧ DelC l st m a.tm L 0) ∨ (a.kind % 9 = 3 ∧ DropC l a.id L 0)
theorem dropC_one {l L M : List Ver} {id : Nat} (h : DropC l id L 0) (g : DropC l id M 0) : L = M := by
  cases h; cases g; rfl
theorem stpC_sim {a : Actn} {l L M : List Ver} {st : Int} {m n : Nat} (h : StpC a l st m L) (g : StpC a l st n M) : simV L M := by
  rcases h with ⟨h9, h⟩ | ⟨h9, h⟩ | ⟨h9, h⟩ <;> rcases g with ⟨g9, g⟩ | ⟨g9, g⟩ | ⟨g9, g⟩ <;> try omega
  · exact putC_sim (x := ⟨m, a.data, false, a.tm⟩) (y := ⟨n, a.data, false, a.tm⟩) rfl h g
  · rcases h with ⟨s0, h⟩ | ⟨s0, h⟩ <;> rcases g with ⟨t0, g⟩ | ⟨t0, g⟩
    · rw [dropC_one h g]; rfl
    · exact absurd s0 t0
    · exact absurd t0 s0
    · exact putC_sim (x := markV (if st = 2 then 0 else m) a.tm) (y := markV (if st = 2 then 0 else n) a.tm) rfl h g
  · rw [dropC_one h g]; rfl
theorem setC_zero {b d : Bkt} {key : ByteArray} {M : List Ver → Nat → Prop} (h : SetC b key M d 0) : ∃ L, M L 0 ∧ okP L ∧ d = { b with L := putE b.L key L } := by
  obtain ⟨l, e, hM, ⟨h0, -, rfl⟩ | ⟨rfl, L, j, hP, rfl, rfl⟩⟩ := h
  · exact absurd rfl h0
  · rcases putI_k hP with ⟨-, -, -, hp, rfl, -⟩ | ⟨h, -⟩
    · exact ⟨l, hM, hp, rfl⟩
    · exact absurd rfl h
theorem givC_zero {b d : Bkt} {n m : Nat} {key : ByteArray} (h : GivC b n key d m 0) : hasO 1 60 ko key = true ∧ d.L = b.L ∧ d.st = b.st ∧ (b.st ≠ 1 → d.last = b.last) := by
  rcases h with ⟨-, -, -, h⟩ | ⟨h, h1, rfl, -, -⟩ | ⟨h, h1, h2⟩
  · omega
  · exact ⟨h, rfl, rfl, fun _ => rfl⟩
  · rcases h2 with ⟨-, -, -, h2⟩ | ⟨-, rfl, -, -⟩
    · omega
    · exact ⟨h, rfl, rfl, fun e => absurd h1 e⟩
theorem do_okB {b d : Bkt} {a : Actn} {n t : Nat} {s : ByteArray} {k : Nat} (hk : a.kind % 9 ≤ 3) (hb : okB b) (h : FinC b (DoR b a) d n t s k) : okB d := by
  have h9 : a.kind % 9 = 0 ∨ a.kind % 9 = 1 ∨ a.kind % 9 = 2 ∨ a.kind % 9 = 3 := by omega
  rcases h9 with h9 | h9 | h9 | h9
  · rw [doR_0 h9] at h; exact fin_ok putR_ok hb h
  · rw [doR_1 h9] at h; exact fin_ok putR_ok hb h
  · rw [doR_2 h9] at h; exact fin_ok delR_ok hb h
  · rw [doR_3 h9] at h; exact fin_ok dropR_ok hb h
theorem do_ex (b : Bkt) {a : Actn} (hk : a.kind % 9 ≤ 3) : ∃ d n t s k, FinC b (DoR b a) d n t s k := by
  refine finC_ex b ?_
  have h9 : a.kind % 9 = 0 ∨ a.kind % 9 = 1 ∨ a.kind % 9 = 2 ∨ a.kind % 9 = 3 := by omega
  rcases h9 with h9 | h9 | h9 | h9
  · rw [doR_0 h9]; obtain ⟨d, m, k, h⟩ := wput_ex b 0 a.key a.data a.tm; exact ⟨d, m, 0, noS, k, h, rfl, rfl⟩
  · rw [doR_1 h9]; obtain ⟨d, m, k, h⟩ := wput_ex b 0 a.key a.data a.tm; exact ⟨d, m, 0, noS, k, h, rfl, rfl⟩
  · rw [doR_2 h9]; obtain ⟨d, m, k, h⟩ := wdel_ex b 0 a.key a.tm; exact ⟨d, m, 0, noS, k, h, rfl, rfl⟩
  · rw [doR_3 h9]; obtain ⟨d, k, h⟩ := wdrop_ex b a.key a.id; exact ⟨d, 0, 0, noS, k, h, rfl, rfl, rfl⟩
theorem do_small {b d : Bkt} {a : Actn} {n t : Nat} {s : ByteArray} {k : Nat} (hk : a.kind % 9 ≤ 3) (h : FinC b (DoR b a) d n t s k) (hs : b.name.size ≤ 1000 ∧ smE b.L ∧ smL b.U) : d.name.size ≤ 1000 ∧ smE d.L ∧ smL d.U := by
  by_cases hb : okB b
  · exact sm_of (do_okB hk hb h)
  · rcases h with ⟨-, ⟨rfl, -⟩, -⟩ | ⟨h, -⟩
    · exact hs
    · exact absurd h hb
theorem do_step {b d : Bkt} {a : Actn} {n t : Nat} {s : ByteArray} (hk : a.kind % 9 ≤ 3) (h : FinC b (DoR b a) d n t s 0) :
    ∃ m L, okB b ∧ okB d ∧ hasO 1 60 ko a.key = true ∧ StpC a (getE b.L a.key) b.st m L ∧ d.L = putE b.L a.key L ∧ d.st = b.st ∧ (b.st ≠ 1 → d.last = b.last) := by
  have hb : okB b := by
    rcases h with ⟨-, -, h⟩ | ⟨h, -⟩
    · omega
    · exact h
  have hd := do_okB hk hb h
  obtain ⟨d1, n1, t1, s1, hr, rfl⟩ : ∃ d1 n1 t1 s1, DoR b a d1 n1 t1 s1 0 ∧ d = d1 := by
    rcases h with ⟨-, -, h⟩ | ⟨-, d1, n1, t1, s1, k1, hr, ⟨h0, -, h⟩ | ⟨-, -, -, h⟩ | ⟨rfl, -, ⟨rfl, -⟩, -⟩⟩
    · omega
    · exact absurd h.symm h0
    · omega
    · exact ⟨_, _, _, _, hr, rfl⟩
  have PUTS : (a.kind % 9 = 0 ∨ a.kind % 9 = 1) → PutR b a.key a.data a.tm d n1 t1 s1 0 → ∃ m L, okB b ∧ okB d ∧ hasO 1 60 ko a.key = true ∧ StpC a (getE b.L a.key) b.st m L ∧ d.L = putE b.L a.key L ∧ d.st = b.st ∧ (b.st ≠ 1 → d.last = b.last) := by
    rintro h9 ⟨⟨b1, m1, k1, hg, ⟨h0, -, -, h⟩ | ⟨rfl, -, hS⟩⟩, -⟩
    · exact absurd h.symm h0
    · obtain ⟨g1, g2, g3, g4⟩ := givC_zero hg
      obtain ⟨L, hM, -, rfl⟩ := setC_zero hS
      rw [g2, g3] at hM
      exact ⟨m1, L, hb, hd, g1, .inl ⟨h9, hM⟩, by rw [← g2], g3, g4⟩
  have h9 : a.kind % 9 = 0 ∨ a.kind % 9 = 1 ∨ a.kind % 9 = 2 ∨ a.kind % 9 = 3 := by omega
  rcases h9 with h9 | h9 | h9 | h9
  · rw [doR_0 h9] at hr; exact PUTS (.inl h9) hr
  · rw [doR_1 h9] at hr; exact PUTS (.inr h9) hr
  · rw [doR_2 h9] at hr
    obtain ⟨⟨b1, m1, k1, hg, ⟨h0, -, -, h⟩ | ⟨rfl, -, hS⟩⟩, -⟩ := hr
    · exact absurd h.symm h0
    · obtain ⟨g1, g2, g3, g4⟩ := givC_zero hg
      obtain ⟨L, hM, -, rfl⟩ := setC_zero hS
      rw [g2, g3] at hM
      exact ⟨m1, L, hb, hd, g1, .inr (.inl ⟨h9, hM⟩), by rw [← g2], g3, g4⟩
  · rw [doR_3 h9] at hr
    obtain ⟨⟨-, -, h⟩ | ⟨g1, hS⟩, -⟩ := hr
    · omega
    · obtain ⟨L, hM, -, rfl⟩ := setC_zero hS
      exact ⟨0, L, hb, hd, g1, .inr (.inr ⟨h9, hM⟩), rfl, rfl, fun _ => rfl⟩
theorem keys_put (l : List Ent) (k : ByteArray) (m : List Ver) :
    (putE l k m).map Ent.key = ((l.map Ent.key).filter fun z => ltB z k) ++ (if m = [] then [] else [k]) ++ (l.map Ent.key).filter fun z => ltB k z := by
  rw [putE, List.map_append, List.map_append, List.filter_map, List.filter_map]
  congr 1
  congr 1
  split <;> rfl
theorem keys_sim {l l' : List Ent} {k : ByteArray} {m m' : List Ver} (h : l.map Ent.key = l'.map Ent.key) (hm : m = [] ↔ m' = []) : (putE l k m).map Ent.key = (putE l' k m').map Ent.key := by
  rw [keys_put, keys_put, h]
  by_cases h0 : m = []
  · rw [if_pos h0, if_pos (hm.1 h0)]
  · rw [if_neg h0, if_neg (fun e => h0 (hm.2 e))]
theorem find_sim {l m : List Ver} (h : simV l m) : ∃ (i j : Nat) (d : ByteArray) (k : Bool) (t e : Int), findR l.head? = .tuple #[.agg #[.int .u64 (i : Nat), .string d, .bool k, .int .i64 t], .int .i64 e] ∧ findR m.head? = .tuple #[.agg #[.int .u64 (j : Nat), .string d, .bool k, .int .i64 t], .int .i64 e] := by
  cases l with
  | nil =>
    have : m = [] := h.nil.1 rfl
    subst this
    exact ⟨0, 0, ⟨#[]⟩, false, 0, 4, rfl, rfl⟩
  | cons x r =>
    cases m with
    | nil => exact absurd (h.nil.2 rfl) (by simp)
    | cons y q =>
      have h1 : bare x = bare y := by simp only [simV, List.map_cons, List.cons.injEq] at h; exact h.1
      simp only [bare, Prod.mk.injEq] at h1
      obtain ⟨e1, e2, e3⟩ := h1
      refine ⟨x.id, y.id, x.data, x.mark, x.tm, (if x.mark then 13 else 0), rfl, ?_⟩
      rw [e1, e2, e3]
      rfl
theorem turns {b one other p q : Bkt} {x y : Actn} {n1 t1 n2 t2 n3 t3 n4 t4 : Nat} {s1 s2 s3 s4 : ByteArray} (hx : x.kind % 9 ≤ 3) (hy : y.kind % 9 ≤ 3) (hne : x.key ≠ y.key)
    (h1 : FinC b (DoR b x) one n1 t1 s1 0) (h2 : FinC b (DoR b y) other n2 t2 s2 0) (h3 : FinC one (DoR one y) p n3 t3 s3 0) (h4 : FinC other (DoR other x) q n4 t4 s4 0) :
    okB p ∧ okB q ∧ hasO 1 60 ko x.key = true ∧ simV (getE p.L x.key) (getE q.L x.key) ∧ p.L.length = q.L.length ∧ (b.st ≠ 1 → p.last = q.last) := by
  obtain ⟨m1, L1, hb, ok1, hk, c1, l1, e1, la1⟩ := do_step hx h1
  obtain ⟨m2, L2, -, ok2, -, c2, l2, e2, la2⟩ := do_step hy h2
  obtain ⟨m3, L3, -, ok3, -, c3, l3, e3, la3⟩ := do_step hy h3
  obtain ⟨m4, L4, -, ok4, -, c4, l4, e4, la4⟩ := do_step hx h4
  have rb := okI_rise hb.2.2.2.1
  have r1 := okI_rise ok1.2.2.2.1
  have r2 := okI_rise ok2.2.2.2.1
  rw [e1, l1, getE_other rb _ (Ne.symm hne)] at c3
  rw [e2, l2, getE_other rb _ hne] at c4
  have s13 := stpC_sim c2 c3
  have s24 := stpC_sim c1 c4
  refine ⟨ok3, ok4, hk, ?_, ?_, fun hs => ?_⟩
  · rw [l3, getE_other r1 _ hne, l1, getE_put rb, l4, getE_put r2]
    exact s24
  · have : p.L.map Ent.key = q.L.map Ent.key := by
      rw [l3, l1, put_turn rb hne, l4, l2]
      exact keys_sim (keys_sim rfl s13.nil.symm) s24.nil
    simpa using congrArg List.length this
  · rw [la3 (by rw [e1]; exact hs), la1 hs, la4 (by rw [e2]; exact hs), la2 hs]
end Go.Proofs.YtjjlbbfhmpbneaaGreat

namespace Go.Proofs.YtjjlbbfhmpbneaaGreat
set_option maxRecDepth 100000
open Go.ChangeShapes Go.WideShapes Go.ChangeAt Go.RowKit Go.Shelf
set_option linter.unusedVariables false
set_option linter.unusedSimpArgs false
/-- An act lies in a box. -/
def BoxA (w : World) (P : Nat) (a : Actn) : Prop := ∃ A c, Bx w P 29 (acl a (.slice A a.P.length c)) ∧ Pces w w.heap.size (.slice A a.P.length c) a.P
theorem BoxA.on {w w' : World} {P : Nat} {a : Actn} (h : BoxA w P a) (q : Q w w') : BoxA w' P a := by
  obtain ⟨A, c, h, k⟩ := h
  exact ⟨A, c, h.on q, k.on q⟩
theorem BoxA.lt {w : World} {P : Nat} {a : Actn} (h : BoxA w P a) : P < w.heap.size := by
  obtain ⟨A, c, h, k⟩ := h
  exact h.lt
theorem BoxA.calm {w : World} {P : Nat} {a : Actn} (h : BoxA w P a) : Calm w P := by
  obtain ⟨A, c, h, k⟩ := h
  exact calm_act h
theorem BoxA.kp {w w' : World} {P p : Nat} {a : Actn} (h : BoxA w P a) (c : Calm w p) (g : Kp p w w') (hn : P ≠ p) : BoxA w' P a := by
  obtain ⟨A, c1, h, k⟩ := h
  exact ⟨A, c1, g.bx h hn, k.kp c g⟩
theorem BoxA.store {w : World} {P : Nat} {a d : Actn} {A : Option Addr} {c : Nat} (h : BoxA w P a) (k : Pces w w.heap.size (.slice A d.P.length c) d.P) :
    BoxA (((((((w.setCell ⟨P, 0, none⟩ (.int .u8 (d.kind : Nat))).setCell ⟨P, 1, none⟩ (.string d.key)).setCell ⟨P, 2, none⟩ (.string d.data)).setCell ⟨P, 3, none⟩ (.int .u64 (d.id : Nat))).setCell ⟨P, 4, none⟩ (.int .i64 d.n)).setCell ⟨P, 5, none⟩ (.int .i64 d.tm)).setCell ⟨P, 6, none⟩ (.slice A d.P.length c)) P d ∧
    Kp P w (((((((w.setCell ⟨P, 0, none⟩ (.int .u8 (d.kind : Nat))).setCell ⟨P, 1, none⟩ (.string d.key)).setCell ⟨P, 2, none⟩ (.string d.data)).setCell ⟨P, 3, none⟩ (.int .u64 (d.id : Nat))).setCell ⟨P, 4, none⟩ (.int .i64 d.n)).setCell ⟨P, 5, none⟩ (.int .i64 d.tm)).setCell ⟨P, 6, none⟩ (.slice A d.P.length c)) := by
  have cm := h.calm
  obtain ⟨A0, c0, h, -⟩ := h
  obtain ⟨h1, g⟩ := act_all (y0 := .int .u8 (d.kind : Nat)) (y1 := .string d.key) (y2 := .string d.data) (y3 := .int .u64 (d.id : Nat)) (y4 := .int .i64 d.n) (y5 := .int .i64 d.tm) (y6 := .slice A d.P.length c) h
  exact ⟨⟨A, c, h1, k.kp cm g⟩, g⟩
theorem BoxA.new {w : World} {d : Actn} {A : Option Addr} {c : Nat} (k : Pces w w.heap.size (.slice A d.P.length c) d.P) :
    BoxA (w.alloc (.cells (acl d (.slice A d.P.length c)) 29)) w.heap.size d :=
  ⟨A, c, Bx.new _ _ _, k.on ((Q.refl w).alloc _)⟩
/-- What has been done lies in a box. -/
def BoxD (w : World) (P : Nat) (d : Bkt) (i : Nat) (s : ByteArray) (k : Nat) : Prop := ∃ A c A' c', Bx w P 34 (didC d (.slice A d.L.length c) (.slice A' d.U.length c') i s k) ∧ BktV w d (.slice A d.L.length c) (.slice A' d.U.length c')
theorem BoxD.on {w w' : World} {P : Nat} {d : Bkt} {i : Nat} {s : ByteArray} {k : Nat} (h : BoxD w P d i s k) (q : Q w w') : BoxD w' P d i s k := by
  obtain ⟨A, c, A', c', h, k⟩ := h
  exact ⟨A, c, A', c', h.on q, k.on q⟩
theorem BoxD.lt {w : World} {P : Nat} {d : Bkt} {i : Nat} {s : ByteArray} {k : Nat} (h : BoxD w P d i s k) : P < w.heap.size := by
  obtain ⟨A, c, A', c', h, k⟩ := h
  exact h.lt
theorem BoxD.kp {w w' : World} {P p : Nat} {d : Bkt} {i : Nat} {s : ByteArray} {k : Nat} (h : BoxD w P d i s k) (c : Calm w p) (g : Kp p w w') (hn : P ≠ p) : BoxD w' P d i s k := by
  obtain ⟨A, c1, A', c', h, k⟩ := h
  exact ⟨A, c1, A', c', g.bx h hn, k.kp c g⟩
def zDid : Array Value := #[.string ⟨#[]⟩, .int .i64 0, .slice none 0 0, .slice none 0 0, .int .u64 0, .int .u64 0, .string ⟨#[]⟩, .int .i64 0]
/-- A box that is to hold what has been done, and lies above the given ones. -/
def NewD (w0 w : World) (p : Nat) : Prop := Bx w p 34 zDid ∧ w0.heap.size + 2 < p
theorem NewD.on {w0 w w' : World} {p : Nat} (h : NewD w0 w p) (q : Q w w') : NewD w0 w' p := ⟨h.1.on q, h.2⟩
theorem NewD.calm {w0 w : World} {p : Nat} (h : NewD w0 w p) : Calm w p := ⟨_, _, h.1, rfl⟩
theorem NewD.kp {w0 w w' : World} {p r : Nat} (h : NewD w0 w p) (g : Kp r w w') (hn : p ≠ r) : NewD w0 w' p := ⟨g.bx h.1 hn, h.2⟩
theorem NewD.store {w0 w : World} {P : Nat} {d : Bkt} {A A' : Option Addr} {c c' i k : Nat} {s : ByteArray} (h : NewD w0 w P) (v : BktV w d (.slice A d.L.length c) (.slice A' d.U.length c')) :
    BoxD ((((((((w.setCell ⟨P, 0, none⟩ (.string d.name)).setCell ⟨P, 1, none⟩ (.int .i64 d.st)).setCell ⟨P, 2, none⟩ (.slice A d.L.length c)).setCell ⟨P, 3, none⟩ (.slice A' d.U.length c')).setCell ⟨P, 4, none⟩ (.int .u64 (d.last : Nat))).setCell ⟨P, 5, none⟩ (.int .u64 (i : Nat))).setCell ⟨P, 6, none⟩ (.string s)).setCell ⟨P, 7, none⟩ (.int .i64 (k : Nat))) P d i s k ∧
    Kp P w ((((((((w.setCell ⟨P, 0, none⟩ (.string d.name)).setCell ⟨P, 1, none⟩ (.int .i64 d.st)).setCell ⟨P, 2, none⟩ (.slice A d.L.length c)).setCell ⟨P, 3, none⟩ (.slice A' d.U.length c')).setCell ⟨P, 4, none⟩ (.int .u64 (d.last : Nat))).setCell ⟨P, 5, none⟩ (.int .u64 (i : Nat))).setCell ⟨P, 6, none⟩ (.string s)).setCell ⟨P, 7, none⟩ (.int .i64 (k : Nat))) := by
  obtain ⟨h1, g⟩ := did_all (y0 := .string d.name) (y1 := .int .i64 d.st) (y2 := .slice A d.L.length c) (y3 := .slice A' d.U.length c') (y4 := .int .u64 (d.last : Nat)) (y5 := .int .u64 (i : Nat)) (y6 := .string s) (y7 := .int .i64 (k : Nat)) h.1
  exact ⟨⟨A, c, A', c', h1, v.kp h.calm g⟩, g⟩
/-- A bucket and two acts in the first boxes of a call. -/
def In3 (w0 w : World) (b : Bkt) (x y : Actn) : Prop := BoxB w w0.heap.size b ∧ BoxA w (w0.heap.size + 1) x ∧ BoxA w (w0.heap.size + 2) y ∧ Q w0 w
theorem In3.on {w0 w w' : World} {b : Bkt} {x y : Actn} (h : In3 w0 w b x y) (q : Q w w') : In3 w0 w' b x y := ⟨h.1.on q, h.2.1.on q, h.2.2.1.on q, h.2.2.2.trans q⟩
theorem In3.kp {w0 w w' : World} {b : Bkt} {x y : Actn} {p : Nat} (h : In3 w0 w b x y) (c : Calm w p) (g : Kp p w w') (hp : w0.heap.size + 2 < p) : In3 w0 w' b x y :=
  ⟨h.1.kp c g (by omega), h.2.1.kp c g (by omega), h.2.2.1.kp c g (by omega), g.q h.2.2.2 (by omega)⟩
theorem In3.newD {w0 w : World} {b : Bkt} {x y : Actn} (h : In3 w0 w b x y) : NewD w0 (w.alloc (.cells zDid 34)) w.heap.size := ⟨Bx.new _ _ _, h.2.2.1.lt⟩
/-- And two boxes of what has been done. -/
def In5 (w0 w : World) (b : Bkt) (x y : Actn) (p : Nat) (d : Bkt) (i : Nat) (s : ByteArray) (k : Nat) (p' : Nat) (d' : Bkt) (i' : Nat) (s' : ByteArray) (k' : Nat) : Prop :=
  In3 w0 w b x y ∧ BoxD w p d i s k ∧ BoxD w p' d' i' s' k'
theorem In5.on {w0 w w' : World} {b : Bkt} {x y : Actn} {p : Nat} {d : Bkt} {i : Nat} {s : ByteArray} {k : Nat} {p' : Nat} {d' : Bkt} {i' : Nat} {s' : ByteArray} {k' : Nat} (h : In5 w0 w b x y p d i s k p' d' i' s' k') (q : Q w w') : In5 w0 w' b x y p d i s k p' d' i' s' k' :=
  ⟨h.1.on q, h.2.1.on q, h.2.2.on q⟩
theorem In5.kp {w0 w w' : World} {b : Bkt} {x y : Actn} {p : Nat} {d : Bkt} {i : Nat} {s : ByteArray} {k : Nat} {p' : Nat} {d' : Bkt} {i' : Nat} {s' : ByteArray} {k' : Nat} {r : Nat} (h : In5 w0 w b x y p d i s k p' d' i' s' k') (c : Calm w r) (g : Kp r w w') (hr : w0.heap.size + 2 < r) (h1 : p ≠ r) (h2 : p' ≠ r) : In5 w0 w' b x y p d i s k p' d' i' s' k' :=
  ⟨h.1.kp c g hr, h.2.1.kp c g h1, h.2.2.kp c g h2⟩
/-- The boxes of a bucket and two acts, with what stands in them. -/
def S3 (w0 w : World) (b : Bkt) (x y : Actn) (lv uv px py : Value) : Prop :=
  Bx w w0.heap.size 26 (bcl b lv uv) ∧ Bx w (w0.heap.size + 1) 29 (acl x px) ∧ Bx w (w0.heap.size + 2) 29 (acl y py) ∧ Q w0 w
def C3 (w : World) (b : Bkt) (x y : Actn) (lv uv px py : Value) : Prop := BktV w b lv uv ∧ Pces w w.heap.size px x.P ∧ Pces w w.heap.size py y.P
section
variable {w0 w w' : World} {b d d' : Bkt} {x y : Actn} {lv uv px py lv1 uv1 lv2 uv2 : Value} {p r p' i i' k k' : Nat} {s s' : ByteArray}
theorem S3.on (h : S3 w0 w b x y lv uv px py) (q : Q w w') : S3 w0 w' b x y lv uv px py := ⟨h.1.on q, h.2.1.on q, h.2.2.1.on q, h.2.2.2.trans q⟩
theorem S3.kp (h : S3 w0 w b x y lv uv px py) (g : Kp r w w') (hp : w0.heap.size + 2 < r) : S3 w0 w' b x y lv uv px py :=
  ⟨g.bx h.1 (by omega), g.bx h.2.1 (by omega), g.bx h.2.2.1 (by omega), g.q h.2.2.2 (by omega)⟩
theorem S3.newD (h : S3 w0 w b x y lv uv px py) : NewD w0 (w.alloc (.cells zDid 34)) w.heap.size := ⟨Bx.new _ _ _, h.2.2.1.lt⟩
theorem C3.on (h : C3 w b x y lv uv px py) (q : Q w w') : C3 w' b x y lv uv px py := ⟨h.1.on q, h.2.1.on q, h.2.2.on q⟩
theorem C3.kp (h : C3 w b x y lv uv px py) (c : Calm w r) (g : Kp r w w') : C3 w' b x y lv uv px py := ⟨h.1.kp c g, h.2.1.kp c g, h.2.2.kp c g⟩
theorem In3.parts (h : In3 w0 w b x y) : ∃ A c A' c' Ax cx Ay cy, S3 w0 w b x y (.slice A b.L.length c) (.slice A' b.U.length c') (.slice Ax x.P.length cx) (.slice Ay y.P.length cy) ∧ C3 w b x y (.slice A b.L.length c) (.slice A' b.U.length c') (.slice Ax x.P.length cx) (.slice Ay y.P.length cy) := by
  obtain ⟨⟨A, c, A', c', h1, v1⟩, ⟨Ax, cx, h2, v2⟩, ⟨Ay, cy, h3, v3⟩, q⟩ := h
  exact ⟨A, c, A', c', Ax, cx, Ay, cy, ⟨h1, h2, h3, q⟩, v1, v2, v3⟩
theorem In3.of {A A' Ax Ay : Option Addr} {c c' cx cy : Nat} (h : S3 w0 w b x y (.slice A b.L.length c) (.slice A' b.U.length c') (.slice Ax x.P.length cx) (.slice Ay y.P.length cy)) (k : C3 w b x y (.slice A b.L.length c) (.slice A' b.U.length c') (.slice Ax x.P.length cx) (.slice Ay y.P.length cy)) : In3 w0 w b x y :=
  ⟨⟨_, _, _, _, h.1, k.1⟩, ⟨_, _, h.2.1, k.2.1⟩, ⟨_, _, h.2.2.1, k.2.2⟩, h.2.2.2⟩
def S5 (w0 w : World) (b : Bkt) (x y : Actn) (lv uv px py : Value) (p : Nat) (d : Bkt) (lv1 uv1 : Value) (i : Nat) (s : ByteArray) (k : Nat) (p' : Nat) (d' : Bkt) (lv2 uv2 : Value) (i' : Nat) (s' : ByteArray) (k' : Nat) : Prop :=
  S3 w0 w b x y lv uv px py ∧ Bx w p 34 (didC d lv1 uv1 i s k) ∧ Bx w p' 34 (didC d' lv2 uv2 i' s' k')
def C5 (w : World) (b : Bkt) (x y : Actn) (lv uv px py : Value) (d : Bkt) (lv1 uv1 : Value) (d' : Bkt) (lv2 uv2 : Value) : Prop := C3 w b x y lv uv px py ∧ BktV w d lv1 uv1 ∧ BktV w d' lv2 uv2
theorem S5.on (h : S5 w0 w b x y lv uv px py p d lv1 uv1 i s k p' d' lv2 uv2 i' s' k') (q : Q w w') : S5 w0 w' b x y lv uv px py p d lv1 uv1 i s k p' d' lv2 uv2 i' s' k' := ⟨h.1.on q, h.2.1.on q, h.2.2.on q⟩
theorem S5.kp (h : S5 w0 w b x y lv uv px py p d lv1 uv1 i s k p' d' lv2 uv2 i' s' k') (g : Kp r w w') (hp : w0.heap.size + 2 < r) (h1 : p ≠ r) (h2 : p' ≠ r) : S5 w0 w' b x y lv uv px py p d lv1 uv1 i s k p' d' lv2 uv2 i' s' k' :=
  ⟨h.1.kp g hp, g.bx h.2.1 h1, g.bx h.2.2 h2⟩
theorem C5.on (h : C5 w b x y lv uv px py d lv1 uv1 d' lv2 uv2) (q : Q w w') : C5 w' b x y lv uv px py d lv1 uv1 d' lv2 uv2 := ⟨h.1.on q, h.2.1.on q, h.2.2.on q⟩
theorem C5.kp (h : C5 w b x y lv uv px py d lv1 uv1 d' lv2 uv2) (c : Calm w r) (g : Kp r w w') : C5 w' b x y lv uv px py d lv1 uv1 d' lv2 uv2 := ⟨h.1.kp c g, h.2.1.kp c g, h.2.2.kp c g⟩
theorem In5.parts (h : In5 w0 w b x y p d i s k p' d' i' s' k') : ∃ A c A' c' Ax cx Ay cy B1 e1 B2 e2 B3 e3 B4 e4,
    S5 w0 w b x y (.slice A b.L.length c) (.slice A' b.U.length c') (.slice Ax x.P.length cx) (.slice Ay y.P.length cy) p d (.slice B1 d.L.length e1) (.slice B2 d.U.length e2) i s k p' d' (.slice B3 d'.L.length e3) (.slice B4 d'.U.length e4) i' s' k' ∧
    C5 w b x y (.slice A b.L.length c) (.slice A' b.U.length c') (.slice Ax x.P.length cx) (.slice Ay y.P.length cy) d (.slice B1 d.L.length e1) (.slice B2 d.U.length e2) d' (.slice B3 d'.L.length e3) (.slice B4 d'.U.length e4) := by
  obtain ⟨h, ⟨B1, e1, B2, e2, h1, v1⟩, ⟨B3, e3, B4, e4, h2, v2⟩⟩ := h
  obtain ⟨A, c, A', c', Ax, cx, Ay, cy, hs, hc⟩ := h.parts
  exact ⟨A, c, A', c', Ax, cx, Ay, cy, B1, e1, B2, e2, B3, e3, B4, e4, ⟨hs, h1, h2⟩, hc, v1, v2⟩
theorem In5.of {A A' Ax Ay B1 B2 B3 B4 : Option Addr} {c c' cx cy e1 e2 e3 e4 : Nat} (h : S5 w0 w b x y (.slice A b.L.length c) (.slice A' b.U.length c') (.slice Ax x.P.length cx) (.slice Ay y.P.length cy) p d (.slice B1 d.L.length e1) (.slice B2 d.U.length e2) i s k p' d' (.slice B3 d'.L.length e3) (.slice B4 d'.U.length e4) i' s' k')
    (g : C5 w b x y (.slice A b.L.length c) (.slice A' b.U.length c') (.slice Ax x.P.length cx) (.slice Ay y.P.length cy) d (.slice B1 d.L.length e1) (.slice B2 d.U.length e2) d' (.slice B3 d'.L.length e3) (.slice B4 d'.U.length e4)) : In5 w0 w b x y p d i s k p' d' i' s' k' :=
  ⟨In3.of h.1 g.1, ⟨_, _, _, _, h.2.1, g.2.1⟩, ⟨_, _, _, _, h.2.2, g.2.2⟩⟩
end
end Go.Proofs.YtjjlbbfhmpbneaaGreat

