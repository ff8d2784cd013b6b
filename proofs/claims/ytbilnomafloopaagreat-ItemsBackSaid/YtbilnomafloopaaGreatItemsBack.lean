/-
  Proved: whatever items ItemsBack is called with, it returns true and leaves what it was given as it was. No condition.
-/
import Derived.Test.YtbilnomafloopaaGreatIBackP
namespace Go.Proofs.YtbilnomafloopaaGreat.itemsBack
set_option maxRecDepth 100000
open Go.ChangeShapes Go.WideShapes Go.ChangeAt Go.RowKit
open Go.ChangeMaps (open_string shut_string)
set_option linter.unusedVariables false
set_option linter.unusedSimpArgs false

set_option maxHeartbeats 4000000 in
set_option maxRecDepth 100000 in
theorem walk (a : List Itm) (va : Value) (b : List Itm) (vb : Value) (w : World) (t0 : Itms w w.heap.size va a) (z0 : a.length ≤ maxLen) (t1 : Itms w w.heap.size vb b) (z1 : b.length ≤ maxLen) :
    Calls Tryz.prog 10 #[va, vb] w fun e w' => e = .returned (.bool true) ∧ Q w w' := by
  have F1 := Lib.hid (fewIs_any a va w z0 t0)
  have F2 := Lib.hid (fun (x : World) (q : Q w x) => fewIs_any b vb x z1 (t1.on q))
  have oA : ∀ x ∈ fewIs a, okI x := fun x hx => by have := fewIs_ok x hx; exact ⟨by unfold maxLen; omega, by unfold maxLen; omega⟩
  have oB : ∀ x ∈ fewIs b, okI x := fun x hx => by have := fewIs_ok x hx; exact ⟨by unfold maxLen; omega, by unfold maxLen; omega⟩
  have lA := fewIs_len a
  have lB := fewIs_len b
  obtain ⟨A, hA⟩ : ∃ A, A = fewIs a := ⟨_, rfl⟩
  obtain ⟨B, hB⟩ : ∃ B, B = fewIs b := ⟨_, rfl⟩
  rw [← hA] at F1 oA lA
  rw [← hB] at F2 oB lB
  clear hA hB t0 t1 z0 z1
  have W1 := Lib.hid (fun (x : World) (u : Value) (h : Itms x x.heap.size u A) => with_any A [] u (.slice none 0 0) x (by omega) (by simp) oA h (Chgs.nil _ _))
  have W2 := Lib.hid (fun (x : World) (u : Value) (h : Itms x x.heap.size u B) => with_any B [] u (.slice none 0 0) x (by omega) (by simp) oB h (Chgs.nil _ _))
  rw [withI_nil] at W1 W2
  have hX := ofI_asc A
  have hY := ofI_asc B
  have oX : ∀ x ∈ ofI A, okI x := fun x hx => oA x (ofI_sub hx)
  have oY : ∀ x ∈ ofI B, okI x := fun x hx => oB x (ofI_sub hx)
  have lX := Nat.le_trans (ofI_len A) lA
  have lY := Nat.le_trans (ofI_len B) lB
  obtain ⟨X, hXe⟩ : ∃ X, X = ofI A := ⟨_, rfl⟩
  obtain ⟨Y, hYe⟩ : ∃ Y, Y = ofI B := ⟨_, rfl⟩
  rw [← hXe] at W1 hX oX lX
  rw [← hYe] at W2 hY oY lY
  clear hXe hYe
  have D1 := Lib.hid (fun (x : World) (u v : Value) (h : Itms x x.heap.size u X) (k : Itms x x.heap.size v Y) => diff_any X Y u v x (by omega) (by omega) h k)
  have D2 := Lib.hid (fun (x : World) (u v : Value) (h : Itms x x.heap.size u X) (k : Itms x x.heap.size v Y) => diff_any Y X v u x (by omega) (by omega) k h)
  rw [ofI_self hX, ofI_self hY] at D1 D2
  have HOA := Lib.hid oA
  have HOB := Lib.hid oB
  have HX := Lib.hid hX
  have HY := Lib.hid hY
  have HOX := Lib.hid oX
  have HOY := Lib.hid oY
  clear oA oB hX hY oX oY
  go_enter Tryz.func10, Tryz.ntmps10
  go_wp2_with fail
  refine (F1.out).mono ?_
  rintro e w1 ⟨v1, rfl, o1, q1⟩
  have r1 := Lib.hid (OwnI.read o1 HOA.out)
  clear F1 o1
  go_wp2_with fail
  refine (W1.out _ _ r1.out).mono ?_
  rintro e w2 ⟨v2, rfl, o2, q2⟩
  have r2 := Lib.hid (OwnI.read o2 HOX.out)
  have qa := q1.trans q2
  clear W1 o2 r1 q1 q2
  go_wp2_with fail
  refine (F2.out _ qa).mono ?_
  rintro e w3 ⟨v3, rfl, o3, q3⟩
  have r3 := Lib.hid (OwnI.read o3 HOB.out)
  have r2 := Lib.hid (r2.out.on q3)
  clear F2 o3
  go_wp2_with fail
  refine (W2.out _ _ r3.out).mono ?_
  rintro e w4 ⟨v4, rfl, o4, q4⟩
  have r4 := Lib.hid (OwnI.read o4 HOY.out)
  have r2 := Lib.hid (r2.out.on q4)
  have qb := (qa.trans q3).trans q4
  clear W2 o4 r3 qa q3 q4
  go_wp2_with fail
  refine (D1.out _ _ _ r2.out r4.out).mono ?_
  rintro e w5 ⟨v5, rfl, c, o5, hc, q5⟩
  have okc : ∀ x ∈ c, okH x := fun x hx => by
    have := diff_ok (p := fun n v => n.size ≤ maxLen ∧ v.size ≤ maxLen) HOX.out HOY.out (fun n v h => ⟨h.1, Nat.zero_le _⟩) hc x hx
    exact ⟨this.1, this.2, trivial⟩
  have lc := diff_len HX.out HY.out hc
  have r5 := Lib.hid (OwnH.read o5 okc)
  have r2 := Lib.hid (r2.out.on q5)
  have r4 := Lib.hid (r4.out.on q5)
  have HCD := Lib.hid hc
  clear D1 o5 hc okc
  go_wp2_with fail
  refine (D2.out _ _ _ r2.out r4.out).mono ?_
  rintro e w6 ⟨v6, rfl, d, o6, hd, q6⟩
  have okd : ∀ x ∈ d, okH x := fun x hx => by
    have := diff_ok (p := fun n v => n.size ≤ maxLen ∧ v.size ≤ maxLen) HOY.out HOX.out (fun n v h => ⟨h.1, Nat.zero_le _⟩) hd x hx
    exact ⟨this.1, this.2, trivial⟩
  have ld := diff_len HY.out HX.out hd
  have r6 := Lib.hid (OwnH.read o6 okd)
  have r2 := Lib.hid (r2.out.on q6)
  have r5 := Lib.hid (r5.out.on q6)
  have HDD := Lib.hid hd
  have hnm := back_names HX.out HY.out HCD.out hd
  have hll : c.length = d.length := by have := congrArg List.length hnm; simpa using this
  have HNM := Lib.hid hnm
  have qc := (qb.trans q5).trans q6
  clear D2 o6 hd okd r4 hnm qb q5 q6
  obtain ⟨A5, c5, rfl⟩ := r5.out.form
  obtain ⟨A6, c6, rfl⟩ := r6.out.form
  have hnl : ((c.length : Int) != (d.length : Int)) = false := by simp [hll]
  have HLL := Lib.hid hll
  clear hll
  have W3 := Lib.hid (fun (x : World) (u v : Value) (h : Itms x x.heap.size u X) (k : Chgs x x.heap.size v c) => with_any X c u v x (by omega) (by omega) HOX.out h k)
  have W4 := Lib.hid (fun (x : World) (u v : Value) (h : Itms x x.heap.size u Y) (k : Chgs x x.heap.size v d) => with_any Y d u v x (by omega) (by omega) HOY.out h k)
  rw [with_diff HX.out HY.out HCD.out] at W3
  rw [with_diff HY.out HX.out HDD.out] at W4
  have S1 := Lib.hid (fun (x : World) (u v : Value) (h : Itms x x.heap.size u X) (k : Itms x x.heap.size v X) => isame_any X X u v x (by omega) (by omega) h k)
  have hdt : decide (X = X) = true := by simp
  rw [hdt] at S1
  clear hdt
  go_wp2_with fail
  refine (W3.out _ _ _ r2.out r5.out).mono ?_
  rintro e w7 ⟨v7, rfl, o7, q7⟩
  have r7 := Lib.hid (OwnI.read o7 HOY.out)
  have r2 := Lib.hid (r2.out.on q7)
  have r5 := Lib.hid (r5.out.on q7)
  have r6 := Lib.hid (r6.out.on q7)
  clear W3 o7
  go_wp2_with fail
  refine (W4.out _ _ _ r7.out r6.out).mono ?_
  rintro e w8 ⟨v8, rfl, o8, q8⟩
  have r8 := Lib.hid (OwnI.read o8 HOX.out)
  have r2 := Lib.hid (r2.out.on q8)
  have r5 := Lib.hid (r5.out.on q8)
  have r6 := Lib.hid (r6.out.on q8)
  clear W4 o8 r7
  go_wp2_with fail
  refine (S1.out _ _ _ r8.out r2.out).mono ?_
  rintro e w9 ⟨rfl, d9⟩
  have r5 := Lib.hid (r5.out.on d9.q)
  have r6 := Lib.hid (r6.out.on d9.q)
  have qd := (((qc.trans q7).trans q8).trans d9.q)
  clear S1 r8 r2 qc q7 q8 d9 hnl HOA HOB HOX HOY
  go_wp2_with fail
  obtain ⟨B5, k5, e5, -, -, -, h5⟩ := r5.out
  obtain ⟨B6, k6, e6, -, -, -, h6⟩ := r6.out
  injection e5 with e51 e52 e53
  injection e6 with e61 e62 e63
  subst e51 e61
  have H5 := Lib.hid h5
  have H6 := Lib.hid h6
  clear h5 h6 e52 e53 e62 e63 r5 r6
  have HQD := Lib.hid qd
  clear qd
  go_loopw [9] (fun I wr => ∃ i : Nat, i ≤ c.length ∧ I = .int .i64 i ∧ Q w9 wr) (fun I _ => c.length - (intOf I).toNat)
  case atStart => exact ⟨0, Nat.zero_le _, rfl, Q.refl _⟩
  case round =>
    obtain ⟨i, hil, rfl, q⟩ := hrel
    by_cases hlt : i < c.length
    · have hlt2 : i < d.length := by have := HLL.out; omega
      obtain ⟨p5, hp5, hb5, hat5⟩ := H5.out i hlt
      obtain ⟨p6, hp6, hb6, hat6⟩ := H6.out i hlt2
      subst hp5 hp6
      obtain ⟨s0, -, s2⟩ := hat5.keep (by rw [add_block]; exact hb5) fun _ hp => q.cell hp
      obtain ⟨u0, -, u2⟩ := hat6.keep (by rw [add_block]; exact hb6) fun _ hp => q.cell hp
      have hnm : c[i].n = d[i].n := by
        have h1 : (c.map Chg.n)[i]? = (d.map Chg.n)[i]? := by rw [HNM.out]
        simpa [hlt, hlt2] using h1
      have hgn : c[i].gone = true → d[i].gone = false := back_gone HCD.out HDD.out (List.getElem_mem hlt) (List.getElem_mem hlt2) hnm
      have hilt : (i : Int) < (c.length : Int) := by omega
      have hilt2 : (i : Int) < (d.length : Int) := by omega
      have hAsc : ∀ j (hj : j < c.length), j < i → ltB c[j].n c[i].n = true := fun j hj hji => (List.pairwise_iff_getElem.1 HCD.out.1) j i hj hlt hji
      have HASC := Lib.hid hAsc
      obtain ⟨x, hx⟩ : ∃ x, x = c[i] := ⟨_, rfl⟩
      obtain ⟨y, hy⟩ : ∃ y, y = d[i] := ⟨_, rfl⟩
      rw [← hx] at s0 s2 hnm hgn HASC
      rw [← hy] at u0 u2 hnm hgn
      have he : (x.n.toList == y.n.toList) = true := by rw [hnm]; simp
      clear hx hy hnm hAsc hat5 hat6
      by_cases hi0 : i = 0
      · have hi1 : ¬ (0 : Int) < (i : Int) := by omega
        have hi2 : decide ((0 : Int) < (i : Int)) = false := decide_eq_false hi1
        clear hi0 HASC
        cases hg : x.gone with
        | false =>
          rw [hg] at s2
          clear hgn
          go_wp2_with fail
          refine wp_region_held_drew (S := (fun w' => w'.cell? (p5.add (i * 3)) = some (.string x.n) ∧ w'.cell? ⟨(p5.add (i * 3)).block, (p5.add (i * 3)).off + 2, none⟩ = some (.bool false) ∧ w'.cell? (p6.add (i * 3)) = some (.string y.n) ∧ w'.cell? ⟨(p6.add (i * 3)).block, (p6.add (i * 3)).off + 2, none⟩ = some (.bool y.gone))) (by kernel_rfl) ⟨s0, s2, u0, u2⟩ (fun hHeld => ?_)
          refine tkV 0 ?_
          refine tkV 1 ?_
          refine tkV 2 ?_
          refine tkV 3 ?_
          refine tkV 4 ?_
          refine tkV 5 ?_
          refine tkV 6 ?_
          refine tkV 7 ?_
          refine tkV 8 ?_
          refine tkV 9 ?_
          refine tkB 10 (.bool false) ?_
          refine tkV 11 ?_
          refine tkV 12 ?_
          refine tkB 13 (.bool false) ?_
          refine tkV 14 ?_
          refine tkU 15 ?_
          refine tkU 16 ?_
          refine tkU 17 ?_
          refine tkU 18 ?_
          refine tkU 19 ?_
          refine tkU 20 ?_
          refine tkU 21 ?_
          refine tkU 22 ?_
          refine tkU 23 ?_
          refine tkU 24 ?_
          refine tkU 25 ?_
          refine tkU 26 ?_
          refine tkV 27 ?_
          refine tkV 28 ?_
          refine tkV 29 ?_
          refine tkV 30 ?_
          refine tkV 31 ?_
          refine tkV 32 ?_
          refine tkV 33 ?_
          refine tkV 34 ?_
          refine tkV 35 ?_
          refine tkU 36 ?_
          refine tkU 37 ?_
          refine tkU 38 ?_
          refine tkU 39 ?_
          refine tkU 40 ?_
          refine tkV 41 ?_
          refine tkV 42 ?_
          refine wpAnyH_done (by kernel_rfl) ?_ _
          go_wp2_with fail
          go_roundw
          case rel => exact ⟨i + 1, by omega, by go_num, q.drew⟩
          case measure => simp [intOf]; omega
        | true =>
          have hgy := hgn hg
          rw [hg] at s2
          rw [hgy] at u2
          clear hgn
          go_wp2_with fail
          refine wp_region_held_drew (S := (fun w' => w'.cell? (p5.add (i * 3)) = some (.string x.n) ∧ w'.cell? ⟨(p5.add (i * 3)).block, (p5.add (i * 3)).off + 2, none⟩ = some (.bool true) ∧ w'.cell? (p6.add (i * 3)) = some (.string y.n) ∧ w'.cell? ⟨(p6.add (i * 3)).block, (p6.add (i * 3)).off + 2, none⟩ = some (.bool false))) (by kernel_rfl) ⟨s0, s2, u0, u2⟩ (fun hHeld => ?_)
          refine tkV 0 ?_
          refine tkV 1 ?_
          refine tkV 2 ?_
          refine tkV 3 ?_
          refine tkV 4 ?_
          refine tkV 5 ?_
          refine tkV 6 ?_
          refine tkV 7 ?_
          refine tkV 8 ?_
          refine tkV 9 ?_
          refine tkB 10 (.bool false) ?_
          refine tkV 11 ?_
          refine tkV 12 ?_
          refine tkB 13 (.bool false) ?_
          refine tkV 14 ?_
          refine tkU 15 ?_
          refine tkU 16 ?_
          refine tkU 17 ?_
          refine tkU 18 ?_
          refine tkU 19 ?_
          refine tkU 20 ?_
          refine tkU 21 ?_
          refine tkU 22 ?_
          refine tkU 23 ?_
          refine tkU 24 ?_
          refine tkU 25 ?_
          refine tkU 26 ?_
          refine tkV 27 ?_
          refine tkV 28 ?_
          refine tkV 29 ?_
          refine tkV 30 ?_
          refine tkV 31 ?_
          refine tkV 32 ?_
          refine tkV 33 ?_
          refine tkV 34 ?_
          refine tkV 35 ?_
          refine tkV 36 ?_
          refine tkV 37 ?_
          refine tkV 38 ?_
          refine tkV 39 ?_
          refine tkV 40 ?_
          refine tkV 41 ?_
          refine tkV 42 ?_
          refine wpAnyH_done (by kernel_rfl) ?_ _
          go_wp2_with fail
          go_roundw
          case rel => exact ⟨i + 1, by omega, by go_num, q.drew⟩
          case measure => simp [intOf]; omega
      · obtain ⟨j, hj⟩ : ∃ j, i = j + 1 := ⟨i - 1, by omega⟩
        have hjc : j < c.length := by omega
        have hi1 : (0 : Int) < (i : Int) := by omega
        have hi3 : (i : Int) - 1 = (j : Int) := by omega
        have hjlt : (j : Int) < (c.length : Int) := by omega
        obtain ⟨p7, hp7, hb7, hat7⟩ := H5.out j hjc
        injection hp7 with hp7
        subst hp7
        obtain ⟨t0, -, -⟩ := hat7.keep (by rw [add_block]; exact hb7) fun _ hp => q.cell hp
        have hz := HASC.out j hjc (by omega)
        obtain ⟨z, hze⟩ : ∃ z, z = c[j] := ⟨_, rfl⟩
        rw [← hze] at t0 hz
        have hz2 : Op.bytesLess z.n.toList x.n.toList = true := hz
        have hwj : IntKind.i64.wrap (j : Int) = (j : Int) := by simp [IntKind.wrap, IntKind.bits, IntKind.signed]; omega
        clear hze hz HASC hat7 hj hi0
        cases hg : x.gone with
        | false =>
          rw [hg] at s2
          clear hgn
          go_wp2_with fail
          refine wp_region_held_drew (S := (fun w' => w'.cell? (p5.add (i * 3)) = some (.string x.n) ∧ w'.cell? ⟨(p5.add (i * 3)).block, (p5.add (i * 3)).off + 2, none⟩ = some (.bool false) ∧ w'.cell? (p6.add (i * 3)) = some (.string y.n) ∧ w'.cell? ⟨(p6.add (i * 3)).block, (p6.add (i * 3)).off + 2, none⟩ = some (.bool y.gone) ∧ w'.cell? (p5.add (j * 3)) = some (.string z.n))) (by kernel_rfl) ⟨s0, s2, u0, u2, t0⟩ (fun hHeld => ?_)
          refine tkV 0 ?_
          refine tkV 1 ?_
          refine tkV 2 ?_
          refine tkV 3 ?_
          refine tkV 4 ?_
          refine tkV 5 ?_
          refine tkV 6 ?_
          refine tkV 7 ?_
          refine tkV 8 ?_
          refine tkV 9 ?_
          refine tkB 10 (.bool false) ?_
          refine tkV 11 ?_
          refine tkV 12 ?_
          refine tkB 13 (.bool true) ?_
          refine tkV 14 ?_
          refine tkV 15 ?_
          refine tkV 16 ?_
          refine tkB 17 (.int .i64 (j : Int)) ?_
          refine tkV 18 ?_
          refine tkV 19 ?_
          refine tkV 20 ?_
          refine tkV 21 ?_
          refine tkV 22 ?_
          refine tkV 23 ?_
          refine tkV 24 ?_
          refine tkV 25 ?_
          refine tkB 26 (.bool false) ?_
          refine tkV 27 ?_
          refine tkV 28 ?_
          refine tkV 29 ?_
          refine tkV 30 ?_
          refine tkV 31 ?_
          refine tkV 32 ?_
          refine tkV 33 ?_
          refine tkV 34 ?_
          refine tkV 35 ?_
          refine tkU 36 ?_
          refine tkU 37 ?_
          refine tkU 38 ?_
          refine tkU 39 ?_
          refine tkU 40 ?_
          refine tkV 41 ?_
          refine tkV 42 ?_
          refine wpAnyH_done (by kernel_rfl) ?_ _
          go_wp2_with fail
          go_roundw
          case rel => exact ⟨i + 1, by omega, by go_num, q.drew⟩
          case measure => simp [intOf]; omega
        | true =>
          have hgy := hgn hg
          rw [hg] at s2
          rw [hgy] at u2
          clear hgn
          go_wp2_with fail
          refine wp_region_held_drew (S := (fun w' => w'.cell? (p5.add (i * 3)) = some (.string x.n) ∧ w'.cell? ⟨(p5.add (i * 3)).block, (p5.add (i * 3)).off + 2, none⟩ = some (.bool true) ∧ w'.cell? (p6.add (i * 3)) = some (.string y.n) ∧ w'.cell? ⟨(p6.add (i * 3)).block, (p6.add (i * 3)).off + 2, none⟩ = some (.bool false) ∧ w'.cell? (p5.add (j * 3)) = some (.string z.n))) (by kernel_rfl) ⟨s0, s2, u0, u2, t0⟩ (fun hHeld => ?_)
          refine tkV 0 ?_
          refine tkV 1 ?_
          refine tkV 2 ?_
          refine tkV 3 ?_
          refine tkV 4 ?_
          refine tkV 5 ?_
          refine tkV 6 ?_
          refine tkV 7 ?_
          refine tkV 8 ?_
          refine tkV 9 ?_
          refine tkB 10 (.bool false) ?_
          refine tkV 11 ?_
          refine tkV 12 ?_
          refine tkB 13 (.bool true) ?_
          refine tkV 14 ?_
          refine tkV 15 ?_
          refine tkV 16 ?_
          refine tkB 17 (.int .i64 (j : Int)) ?_
          refine tkV 18 ?_
          refine tkV 19 ?_
          refine tkV 20 ?_
          refine tkV 21 ?_
          refine tkV 22 ?_
          refine tkV 23 ?_
          refine tkV 24 ?_
          refine tkV 25 ?_
          refine tkB 26 (.bool false) ?_
          refine tkV 27 ?_
          refine tkV 28 ?_
          refine tkV 29 ?_
          refine tkV 30 ?_
          refine tkV 31 ?_
          refine tkV 32 ?_
          refine tkV 33 ?_
          refine tkV 34 ?_
          refine tkV 35 ?_
          refine tkV 36 ?_
          refine tkV 37 ?_
          refine tkV 38 ?_
          refine tkV 39 ?_
          refine tkV 40 ?_
          refine tkV 41 ?_
          refine tkV 42 ?_
          refine wpAnyH_done (by kernel_rfl) ?_ _
          go_wp2_with fail
          go_roundw
          case rel => exact ⟨i + 1, by omega, by go_num, q.drew⟩
          case measure => simp [intOf]; omega
    · have h2 : ¬ (i : Int) < (c.length : Int) := by omega
      go_wp2_with fail
      refine (awakeI_any _).mono ?_
      rintro e w10 ⟨rfl, q10⟩
      go_wp2_with fail
      go_ret
      exact ⟨rfl, (HQD.out.trans q).trans q10⟩

set_option maxRecDepth 100000 in
theorem lifted (os : Os) (started : os.Started) (H : Type) (enc : TypeId × Value → H) :
    ReturnsInHanded {} Tryz.checked os 10 .any (Rows.itemsBackSpec.pre6 enc Tryz.prog Tryz.f10 Rows.itemsBackRow.domain false) (Rows.itemsBackSpec.post enc Tryz.prog Tryz.f10 false true false false) := by
  refine returnsInHanded_of_change (C := Tryz.checked) own started (by kernel_rfl) Tryz.func10
    (ChangeSpec.witness6 (enc := enc) (C := Tryz.checked) false ⟨#[], #[.slice none 0 0, .slice none 0 0], []⟩ 8 (by kernel_rfl) (by kernel_rfl) (by kernel_rfl) (by kernel_rfl)) ?_
  intro W base args ds gs before hval0 hW hcnd _
  have hval : ∀ (j : Nat) t v, Tryz.f10.params[j]? = some t → args[j]? = some v → Value.okWide Tryz.prog W .any base t v := hval0
  have hW' := hW
  obtain ⟨p, q, hA0, hV, rfl, hfz, hnd⟩ := hW
  have hA : DataW.TrodAll enc Tryz.prog W 0 (fun _ => true) true Tryz.f10.params.toList args.toList ds p := hA0
  rw [Tryz.params10] at hA hval
  obtain ⟨v0, vs0, d0, ds0, p0, q0, hargs, rfl, rfl, h0, r0⟩ := trodAll_cons hA
  obtain ⟨v1, vs1, d1, ds1, p1, q1, rfl, rfl, rfl, h1, r1⟩ := trodAll_cons r0
  obtain ⟨rfl, rfl, rfl⟩ := trodAll_nil r1
  obtain rfl : args = #[v0, v1] := by cases args; simp_all
  obtain ⟨rfl, rfl⟩ := trodVars_none hV
  clear hA0 hval0
  simp only [List.append_nil] at hW'
  have hlt : ∀ x ∈ p0 ++ p1, x.block < W.heap.size := fun x hx => by simpa using hW'.lt x (by simpa using hx)
  obtain ⟨l0, t0, z0⟩ := open_itms (hval 0 26 v0 rfl rfl) h0
  obtain ⟨l1, t1, z1⟩ := open_itms (hval 1 26 v1 rfl rfl) h1
  refine (walk l0 v0 l1 v1 W t0 z0 t1 z1).mono fun e W' ⟨he, bel⟩ => ?_
  subst he
  refine ⟨_, rfl, _, _, _, [], _, [], hW', trodAll_mk1 (shut_bool Tryz.underlying4 _), (trodAll_cons_mk (Below.trod laid (by kernel_rfl) (of_decide_eq_true (by kernel_rfl)) h0 bel (fun x hx => hlt x (by simp [hx]))) (trodAll_cons_mk (Below.trod laid (by kernel_rfl) (of_decide_eq_true (by kernel_rfl)) h1 bel (fun x hx => hlt x (by simp [hx]))) trodAll_mk0)), rfl, Below.frame bel _, fun h => by cases h⟩

theorem over : Rows.itemsBackRow.holds Tryz.pinned (OpenSpec.ofChange Rows.itemsBackSpec) :=
  OpenClaim.holds_of_wide 10 Tryz.f10 rfl rfl rfl rfl rfl rfl rfl ⟨rfl, rfl, rfl, rfl, rfl⟩ rfl rfl rfl rfl rfl (by kernel_rfl) Tryz.func10 (by kernel_rfl)
    (of_decide_eq_true (by kernel_rfl)) (by unfold Func.isWrapper; first | (rw [if_pos (by decide +kernel)]; kernel_rfl) | (rw [if_neg (by decide +kernel)]; exact ⟨rfl, rfl⟩))
    (fun os started H enc _ => lifted os started H enc)

theorem proved : Rows.ItemsBackSaid := over
#print axioms proved
end Go.Proofs.YtbilnomafloopaaGreat.itemsBack
