/-
  Contract of the statements' Few over a depot. Contract of the program's Of at any depot; a depot that comes in, cut by Few. The statements' awake of layer 11. Plain facts on changes there and back.
-/
import Derived.Test.YtbilnomafloopaaGreatNm
import Derived.Test.YtbilnomafloopaaGreatNk
import Derived.Test.YtbilnomafloopaaGreatNl
import Derived.Test.YtbilnomafloopaaGreatNg
namespace Go.Proofs.YtbilnomafloopaaGreat
set_option maxRecDepth 100000
open Go.ChangeShapes Go.WideShapes Go.ChangeAt Go.RowKit
set_option linter.unusedVariables false
set_option linter.unusedSimpArgs false
def fewD (d : Dep) : Dep := ⟨d.now, (d.L.take 7).map fewB⟩
theorem fewD_next {l : List Bkt} {i : Nat} (h : i < l.length) : (l.take (i + 1)).map fewB = (l.take i).map fewB ++ [fewB l[i]] := by
  rw [List.take_succ_eq_append_getElem h, List.map_append]; rfl
/-- A box below a row of one's own is written: the row, and its lists, stay. -/
theorem RowD.set {base B i : Nat} {w : World} {v u : Value} {l : List Bkt} (h : RowD base w v l) (hb : B < base) : RowD base (w.setCell ⟨B, i, none⟩ u) v l := by
  obtain ⟨P, e, r, f⟩ := h
  refine ⟨P, e, ownsRow_set r hb, fun p hp => ⟨(f p hp).1, ?_, ?_⟩⟩
  · obtain ⟨P2, e2, r2, f2⟩ := (f p hp).2.1
    exact ⟨P2, e2, ownsRow_set r2 hb, fun q hq => ⟨(f2 q hq).1, (f2 q hq).2.1, (f2 q hq).2.2.1, ownsRow_set (f2 q hq).2.2.2 hb⟩⟩
  · obtain ⟨P2, e2, r2, f2⟩ := (f p hp).2.2
    exact ⟨P2, e2, ownsRow_set r2 hb, fun q hq => ⟨(f2 q hq).1, (f2 q hq).2.1, ownsRow_set (f2 q hq).2.2 hb⟩⟩
theorem RowD.low {base b2 : Nat} {w : World} {v : Value} {l : List Bkt} (h : RowD base w v l) (k : b2 ≤ base) : RowD b2 w v l := by
  obtain ⟨P, e, r, f⟩ := h
  refine ⟨P, e, ?_, fun p hp => ⟨(f p hp).1, (f p hp).2.low k⟩⟩
  rcases r.2 with ⟨rfl, h0⟩ | ⟨g, cap, cur, rfl, hb, r2⟩
  · exact ⟨r.1, .inl ⟨rfl, h0⟩⟩
  · exact ⟨r.1, .inr ⟨g, cap, cur, rfl, by omega, r2⟩⟩
theorem fewB_okBk {b : Bkt} (h : okBk b) : okBk (fewB b) := by
  obtain ⟨h0, h1, h2, h3, h4, h5⟩ := h
  obtain ⟨k0, k1, k2⟩ := fewB_small b
  exact ⟨by unfold maxLen; omega, by have := k1.1.1; unfold maxLen; omega, by have := k2.1; unfold maxLen; omega, h3, h4, h5⟩
set_option maxHeartbeats 16000000 in
theorem fewD_any (d : Dep) (dv : Value) (w : World) (hl : d.L.length ≤ maxLen) (ht : Bks w w.heap.size dv d.L) :
    Calls Tryz.prog 11 #[.agg #[.int .i64 d.now, dv]] w fun e w' => ∃ A c, e = .returned (.agg #[.int .i64 (fewD d).now, .slice A (fewD d).L.length c]) ∧ RowD w.heap.size w' (.slice A (fewD d).L.length c) (fewD d).L ∧ Q w w' := by
  have HT := Lib.hid ht
  obtain ⟨A, c, rfl⟩ := ht.form
  have Z0 := Bx.new w 24 #[.int .i64 d.now, .slice A d.L.length c]
  obtain ⟨w1, hw1⟩ : ∃ z, z = (w.alloc (.cells #[.int .i64 d.now, .slice A d.L.length c] 24)).alloc (.cells #[.int .i64 0, .slice none 0 0] 24) := ⟨_, rfl⟩
  have q1 : Q w w1 := by rw [hw1]; exact ((Q.refl w).alloc _).alloc _
  have HZ1 : w1.heap.size = w.heap.size + 1 + 1 := by rw [hw1]; simp
  obtain ⟨w3, hw3⟩ : ∃ z, z = w1.alloc (.cells #[.int .i64 d.now, .slice none 0 0] 24) := ⟨_, rfl⟩
  have X0 := Bx.new w1 24 #[.int .i64 d.now, .slice none 0 0]
  rw [HZ1, ← hw3] at X0
  have q3 : Q w1 w3 := by rw [hw3]; exact (Q.refl w1).alloc _
  have hz3 : w3.heap.size = w.heap.size + 1 + 1 + 1 := by rw [hw3, World.size_alloc, HZ1]
  have B1 : Bx w1 w.heap.size 24 #[.int .i64 d.now, .slice A d.L.length c] := by rw [hw1]; exact Z0.alloc _
  have B2 : Bx w1 (w.heap.size + 1) 24 #[.int .i64 0, .slice none 0 0] := by
    have := Bx.new (w.alloc (.cells #[.int .i64 d.now, .slice A d.L.length c] 24)) 24 #[.int .i64 0, .slice none 0 0]
    rw [hw1]; simpa using this
  have CB1 : Hid (∀ z, Q w1 z → z.cell? ⟨w.heap.size, 0, none⟩ = some (.int .i64 d.now) ∧ z.cell? ⟨w.heap.size, 1, none⟩ = some (.slice A d.L.length c)) := Lib.hid fun z q => by
    constructor <;> (rw [(B1.on q).cell]; rfl)
  have HB2 := Lib.hid B2
  have HX0 := Lib.hid X0
  have HW3 : Hid (((w.alloc (.cells #[.int .i64 d.now, .slice A d.L.length c] 24)).alloc (.cells #[.int .i64 0, .slice none 0 0] 24)).alloc (.cells #[.int .i64 d.now, .slice none 0 0] 24) = w3) := Lib.hid (by rw [hw3, hw1])
  have HQ1 := Lib.hid q1
  have HQ3 := Lib.hid q3
  have HZ := Lib.hid HZ1
  have HZ3 := Lib.hid hz3
  clear ht Z0 B1 B2 X0 hw1 hw3 q1 q3 HZ1 hz3
  unfold maxLen at hl
  go_enter Tryz.func11, Tryz.ntmps11
  go_upto_region 2 with fail
  rw [HW3.out]
  obtain ⟨b0, b1⟩ := CB1.out _ HQ3.out
  go_wp2_with fail
  go_loopw [4] (fun I wr => ∃ (i : Nat) (A5 : Option Addr) (n5 c5 : Nat) (M : List Bkt), i ≤ d.L.length ∧ i ≤ 7 ∧ I = .int .i64 i ∧ M.length = i ∧ Bx wr (w.heap.size + 1 + 1) 24 #[.int .i64 d.now, .slice A5 n5 c5] ∧ RowD (w.heap.size + 1 + 1 + 1) wr (.slice A5 n5 c5) M ∧ Q w1 wr ∧ Hid (M = (d.L.take i).map fewB)) (fun I _ => 7 - (intOf I).toNat)
  case atStart => exact ⟨0, none, 0, 0, [], Nat.zero_le _, Nat.zero_le _, rfl, rfl, HX0.out, RowD.nil _ _, HQ3.out, Lib.hid (by simp)⟩
  case round =>
    obtain ⟨i, A5, n5, c5, M, hil, hi7, rfl, hM, bx, own, q, HM⟩ := hrel
    obtain ⟨wo, hwo⟩ : ∃ x, x = wr := ⟨_, rfl⟩
    subst hwo
    clear b0 b1
    obtain ⟨b0, b1⟩ := CB1.out _ q
    by_cases hlt : i < d.L.length
    · by_cases h7 : i < 7
      · obtain ⟨a, c', lv, uv, hAa, ha, hok, hbv, hat⟩ := HT.out.pick i hlt
        injection hAa with hA1 hA2 hA3
        subst hA1 hA3
        have HX : Hid (M ++ [fewB d.L[i]] = (d.L.take (i + 1)).map fewB) := Lib.hid (by rw [HM.out, fewD_next hlt])
        obtain ⟨x, hx⟩ : ∃ x, x = d.L[i] := ⟨_, rfl⟩
        rw [← hx] at hok hbv hat HX
        obtain ⟨hv1, hv2⟩ := id hbv
        obtain ⟨A3, c3, e3, -⟩ := id hv1
        obtain ⟨A4, c4, e4, -⟩ := id hv2
        subst e3 e4
        have C := Lib.hid fun (z : World) (qz : Q w z) => fewB_row x _ _ z hok.1 hok.2.1 hok.2.2.1 (hbv.on qz)
        have OKY := Lib.hid (fewB_okBk hok)
        obtain ⟨y, hy⟩ : ∃ y, y = fewB x := ⟨_, rfl⟩
        rw [← hy] at C HX OKY
        simp only [bkt] at C
        have HAT := Lib.hid hat
        have hilt : (i : Int) < (d.L.length : Int) := by omega
        have hi7' : (i : Int) < 7 := by omega
        clear hx hat hv1 hv2 hbv hok hy
        have KF : Hid (∀ z, Bx z (w.heap.size + 1 + 1) 24 #[.int .i64 d.now, .slice A5 n5 c5] → Q w1 z → (fun W => Bx W (w.heap.size + 1 + 1) 24 #[.int .i64 d.now, .slice A5 n5 c5] ∧ W.cell? ⟨w.heap.size, 1, none⟩ = some (.slice (some a) d.L.length c) ∧ (W.cell? (a.add (i * 5)) = some (.string x.name) ∧ W.cell? ⟨(a.add (i * 5)).block, (a.add (i * 5)).off + 1, none⟩ = some (.int .i64 x.st) ∧ W.cell? ⟨(a.add (i * 5)).block, (a.add (i * 5)).off + 2, none⟩ = some (.slice A3 x.L.length c3) ∧ W.cell? ⟨(a.add (i * 5)).block, (a.add (i * 5)).off + 3, none⟩ = some (.slice A4 x.U.length c4) ∧ W.cell? ⟨(a.add (i * 5)).block, (a.add (i * 5)).off + 4, none⟩ = some (.int .u64 (x.last : Nat))) ∧ Q w1 W) z) := Lib.hid fun z hb qz => ⟨hb, (CB1.out _ qz).2, HAT.out _ (HQ1.out.trans qz), qz⟩
        have bx9 := bx.on ((Q.refl wo).drew)
        have q9 := q.drew
        go_wp2_with fail
        refine till_begin (F := (fun W => Bx W (w.heap.size + 1 + 1) 24 #[.int .i64 d.now, .slice A5 n5 c5] ∧ W.cell? ⟨w.heap.size, 1, none⟩ = some (.slice (some a) d.L.length c) ∧ (W.cell? (a.add (i * 5)) = some (.string x.name) ∧ W.cell? ⟨(a.add (i * 5)).block, (a.add (i * 5)).off + 1, none⟩ = some (.int .i64 x.st) ∧ W.cell? ⟨(a.add (i * 5)).block, (a.add (i * 5)).off + 2, none⟩ = some (.slice A3 x.L.length c3) ∧ W.cell? ⟨(a.add (i * 5)).block, (a.add (i * 5)).off + 3, none⟩ = some (.slice A4 x.U.length c4) ∧ W.cell? ⟨(a.add (i * 5)).block, (a.add (i * 5)).off + 4, none⟩ = some (.int .u64 (x.last : Nat))) ∧ Q w1 W)) (st := 11) (by kernel_rfl) (KF.out _ bx9 q9) (fun hTill => ?_)
        refine till_take (i := 0) (o := _) (v := ?_) rfl (by kernel_rfl) (by kernel_rfl) (by kernel_rfl) (by kernel_rfl) (by rfl) (fun _ _ _ h => h) (Or.inl ⟨by rfl, ?_⟩) (by assumption) ?_
        rotate_left
        · (intro wx hSw; skip; go_simp; (try with_reducible rfl))
        (try simp only [Act.put, PS])
        refine till_take (i := 1) (o := _) (v := ?_) rfl (by kernel_rfl) (by kernel_rfl) (by kernel_rfl) (by kernel_rfl) (by rfl) (fun _ _ _ h => h) (Or.inl ⟨by rfl, ?_⟩) (by assumption) ?_
        rotate_left
        · (intro wx hSw; obtain ⟨hz, hz1, ⟨hz2, hz3, hz4, hz5, hz6⟩, -⟩ := hSw; have hz7 := hz.cell 1; simp only [List.getElem?_toArray, List.getElem?_cons_zero, List.getElem?_cons_succ] at hz7; go_simp; (try with_reducible rfl))
        (try simp only [Act.put, PS])
        refine till_take (i := 2) (o := _) (v := ?_) rfl (by kernel_rfl) (by kernel_rfl) (by kernel_rfl) (by kernel_rfl) (by rfl) (fun _ _ _ h => h) (Or.inl ⟨by rfl, ?_⟩) (by assumption) ?_
        rotate_left
        · (intro wx hSw; skip; go_simp; (try with_reducible rfl))
        (try simp only [Act.put, PS])
        refine till_take (i := 3) (o := _) (v := ?_) rfl (by kernel_rfl) (by kernel_rfl) (by kernel_rfl) (by kernel_rfl) (by rfl) (fun _ _ _ h => h) (Or.inl ⟨by rfl, ?_⟩) (by assumption) ?_
        rotate_left
        · (intro wx hSw; obtain ⟨hz, hz1, ⟨hz2, hz3, hz4, hz5, hz6⟩, -⟩ := hSw; have hz7 := hz.cell 1; simp only [List.getElem?_toArray, List.getElem?_cons_zero, List.getElem?_cons_succ] at hz7; go_simp; (try with_reducible rfl))
        (try simp only [Act.put, PS])
        refine till_take (i := 4) (o := _) (v := ?_) rfl (by kernel_rfl) (by kernel_rfl) (by kernel_rfl) (by kernel_rfl) (by rfl) (fun _ _ _ h => h) (Or.inl ⟨by rfl, ?_⟩) (by assumption) ?_
        rotate_left
        · (intro wx hSw; skip; go_simp; (try with_reducible rfl))
        (try simp only [Act.put, PS])
        refine till_take (i := 5) (o := _) (v := ?_) rfl (by kernel_rfl) (by kernel_rfl) (by kernel_rfl) (by kernel_rfl) (by rfl) (fun _ _ _ h => h) (Or.inl ⟨by rfl, ?_⟩) (by assumption) ?_
        rotate_left
        · (intro wx hSw; skip; go_simp; (try with_reducible rfl))
        (try simp only [Act.put, PS])
        refine till_take (i := 6) (o := _) (v := ?_) rfl (by kernel_rfl) (by kernel_rfl) (by kernel_rfl) (by kernel_rfl) (by rfl) (fun _ _ _ h => h) (Or.inl ⟨by rfl, ?_⟩) (by assumption) ?_
        rotate_left
        · (intro wx hSw; obtain ⟨hz, hz1, ⟨hz2, hz3, hz4, hz5, hz6⟩, -⟩ := hSw; have hz7 := hz.cell 1; simp only [List.getElem?_toArray, List.getElem?_cons_zero, List.getElem?_cons_succ] at hz7; go_simp; (try with_reducible rfl))
        (try simp only [Act.put, PS])
        refine till_next (i := 7) (o := _) (by kernel_rfl) rfl (fun K hK => ?_)
        go_simp
        go_at_call 29
        refine (C.out _ (HQ1.out.trans q9)).mono ?_
        rintro e w5 ⟨A6, c6, A7, c7, rfl, o5, q5⟩
        have bx10 := bx9.on q5
        have q10 := q9.trans q5
        have o10 := o5.low (b2 := w.heap.size + 1 + 1 + 1) (by have h1 := bx9.lt; omega)
        have own10 := (own.on ((Q.refl wo).drew)).on q5
        refine hK.out _ _ (KF.out _ bx10 q10) (fun hTill => ?_)
        clear hK K
        (try simp only [Act.put, PS])
        refine till_next (i := 8) (o := _) (by kernel_rfl) rfl (fun K hK => ?_)
        go_simp
        have bx11 := bx10.alloc (.cells #[.string y.name, .int .i64 y.st, .slice A6 y.L.length c6, .slice A7 y.U.length c7, .int .u64 (y.last : Nat)] 60)
        have q11 := q10.alloc (.cells #[.string y.name, .int .i64 y.st, .slice A6 y.L.length c6, .slice A7 y.U.length c7, .int .u64 (y.last : Nat)] 60)
        have own11 := own10.on ((Q.refl w5).alloc (.cells #[.string y.name, .int .i64 y.st, .slice A6 y.L.length c6, .slice A7 y.U.length c7, .int .u64 (y.last : Nat)] 60))
        have o11 := o10.on ((Q.refl w5).alloc (.cells #[.string y.name, .int .i64 y.st, .slice A6 y.L.length c6, .slice A7 y.U.length c7, .int .u64 (y.last : Nat)] 60))
        refine hK.out _ _ (KF.out _ bx11 q11) (fun hTill => ?_)
        clear hK K
        (try simp only [Act.put, PS])
        refine till_next (i := 9) (o := _) (by kernel_rfl) rfl (fun K hK => ?_)
        rw [if_pos (by rfl)]
        refine wp_snoc_bkt _ _ _ 22 60 Tryz.underlying22 rfl (w.heap.size + 1 + 1 + 1) _ _ _ ⟨y, .slice A6 y.L.length c6, .slice A7 y.U.length c7⟩ rfl rfl (cells_oneK _ ⟨y, .slice A6 y.L.length c6, .slice A7 y.U.length c7⟩ _) own11 ⟨OKY.out, o11⟩ ?hb ?hl ?_
        case hb => have h5 := bx11.lt; omega
        case hl => omega
        intro v8 w8 o8 g8
        have q12 : Q w1 w8 := q11.grown g8 q11.size (fun k hk => by have := own11.lt k hk; rw [HZ.out]; omega)
        have bx12 := bx11.same (g8.block _ bx11.lt (fun e => by have := own11.lt _ e.symm; omega))
        obtain ⟨A8, n8, c8, rfl⟩ : ∃ A n c, v8 = .slice A n c := by obtain ⟨A, c, e⟩ := o8.form; exact ⟨A, _, c, e⟩
        refine hK.out _ _ (KF.out _ bx12 q12) (fun hTill => ?_)
        clear hK K
        (try simp only [Act.put, PS])
        have z2 := bx12.cell 1
        have zf := bx12.frozen 1
        simp only [List.getElem?_toArray, List.getElem?_cons_zero, List.getElem?_cons_succ] at z2
        refine till_take (i := 10) (o := _) (v := ?_) rfl (by kernel_rfl) (by kernel_rfl) (by kernel_rfl) (by kernel_rfl) (by rfl) (fun _ _ _ h => h) (Or.inl ⟨by rfl, ?_⟩) (by assumption) ?_
        rotate_left
        · (intro wx hSw; skip; go_simp; (try with_reducible rfl))
        (try simp only [Act.put, PS])
        refine till_last (i := 11) (o := _) (by kernel_rfl) rfl (by rfl) (fun K hK => ?_)
        go_simp
        refine hK.out _ _ ?_
        clear hK K
        (try simp only [Act.put, PS])
        refine till_done (by kernel_rfl) ?_ _
        have bxE := bx12.set 1 (.slice A8 n8 c8)
        have oE : RowD (w.heap.size + 1 + 1 + 1) _ _ _ := RowD.set (B := w.heap.size + 1 + 1) (i := 1) (u := .slice A8 n8 c8) o8 (by omega)
        have qE := Q.set q12 (g := w.heap.size + 1 + 1) (Nat.le_of_eq HZ.out) (k := 1) (.slice A8 n8 c8)
        rw [HX.out] at oE
        generalize w8.setCell ⟨w.heap.size + 1 + 1, 1, none⟩ (.slice A8 n8 c8) = wE at bxE oE qE ⊢
        clear KF bx9 q9 bx10 q10 o10 own10 bx11 q11 own11 o11 o8 g8 q12 bx12 z2 zf
        go_wp2_with fail
        go_roundw
        case rel => exact ⟨i + 1, _, _, _, _, by omega, by omega, by go_num, by rw [List.length_map, List.length_take]; omega, bxE, oE, qE, Lib.hid rfl⟩
        case measure => simp [intOf]; omega
      · have HW : Hid (M = (fewD d).L) := Lib.hid (by rw [HM.out, fewD, show i = 7 by omega])
        have h2 : ¬ (i : Int) < 7 := by omega
        have bb0 := bx.cell 0
        have bb1 := bx.cell 1
        have r0 := (HB2.out.on q).cell 0
        have r1 := (HB2.out.on q).cell 1
        have f0 := (HB2.out.on q).frozen 0
        have f1 := (HB2.out.on q).frozen 1
        simp only [List.getElem?_toArray, List.getElem?_cons_zero, List.getElem?_cons_succ] at bb0 bb1 r0 r1
        obtain ⟨A', c', hv⟩ := own.form
        injection hv with g1 g2 g3
        rw [HW.out] at g2
        clear g1 g3
        subst g2
        go_wp2
        (try simp only [Exit.inBlock, Exit.then])
        obtain ⟨wC, hwC⟩ : ∃ wC, wC = (wo.setCell ⟨w.heap.size + 1, 0, none⟩ (.int .i64 d.now)).setCell ⟨w.heap.size + 1, 1, none⟩ (.slice A5 (fewD d).L.length c5) := ⟨_, rfl⟩
        have bD : Bx wC (w.heap.size + 1) 24 #[.int .i64 d.now, .slice A5 (fewD d).L.length c5] := by rw [hwC]; exact ((HB2.out.on q).set 0 _).set 1 _
        have qC : Q w wC := by rw [hwC]; exact Q.set (Q.set (HQ1.out.trans q) (Nat.le_succ _) _) (Nat.le_succ _) _
        have oC : RowD (w.heap.size + 1 + 1 + 1) wC (.slice A5 (fewD d).L.length c5) M := by rw [hwC]; exact (own.set (by omega)).set (by omega)
        rw [← hwC]
        rw [HW.out] at oC
        have oC := oC.low (b2 := w.heap.size) (by omega)
        have v0 := bD.cell 0
        have v1 := bD.cell 1
        simp only [List.getElem?_toArray, List.getElem?_cons_zero, List.getElem?_cons_succ] at v0 v1
        refine bodyPost_ret (v := .agg #[.int .i64 d.now, .slice A5 (fewD d).L.length c5]) ?_ rfl ⟨A5, c5, rfl, oC, qC⟩
        simp [results, Tryz.results11, go_sem, v0, v1]
    · have HW : Hid (M = (fewD d).L) := Lib.hid (by rw [HM.out, fewD, List.take_of_length_le (by omega), List.take_of_length_le (by omega)])
      have h2 : ¬ (i : Int) < (d.L.length : Int) := by omega
      have bb0 := bx.cell 0
      have bb1 := bx.cell 1
      have r0 := (HB2.out.on q).cell 0
      have r1 := (HB2.out.on q).cell 1
      have f0 := (HB2.out.on q).frozen 0
      have f1 := (HB2.out.on q).frozen 1
      simp only [List.getElem?_toArray, List.getElem?_cons_zero, List.getElem?_cons_succ] at bb0 bb1 r0 r1
      obtain ⟨A', c', hv⟩ := own.form
      injection hv with g1 g2 g3
      rw [HW.out] at g2
      clear g1 g3
      subst g2
      go_wp2
      (try simp only [Exit.inBlock, Exit.then])
      obtain ⟨wC, hwC⟩ : ∃ wC, wC = (wo.setCell ⟨w.heap.size + 1, 0, none⟩ (.int .i64 d.now)).setCell ⟨w.heap.size + 1, 1, none⟩ (.slice A5 (fewD d).L.length c5) := ⟨_, rfl⟩
      have bD : Bx wC (w.heap.size + 1) 24 #[.int .i64 d.now, .slice A5 (fewD d).L.length c5] := by rw [hwC]; exact ((HB2.out.on q).set 0 _).set 1 _
      have qC : Q w wC := by rw [hwC]; exact Q.set (Q.set (HQ1.out.trans q) (Nat.le_succ _) _) (Nat.le_succ _) _
      have oC : RowD (w.heap.size + 1 + 1 + 1) wC (.slice A5 (fewD d).L.length c5) M := by rw [hwC]; exact (own.set (by omega)).set (by omega)
      rw [← hwC]
      rw [HW.out] at oC
      have oC := oC.low (b2 := w.heap.size) (by omega)
      have v0 := bD.cell 0
      have v1 := bD.cell 1
      simp only [List.getElem?_toArray, List.getElem?_cons_zero, List.getElem?_cons_succ] at v0 v1
      refine bodyPost_ret (v := .agg #[.int .i64 d.now, .slice A5 (fewD d).L.length c5]) ?_ rfl ⟨A5, c5, rfl, oC, qC⟩
      simp [results, Tryz.results11, go_sem, v0, v1]
end Go.Proofs.YtbilnomafloopaaGreat

namespace Go.Proofs.YtbilnomafloopaaGreat
set_option maxRecDepth 100000
open Go.ChangeShapes Go.WideShapes Go.ChangeAt Go.RowKit
set_option linter.unusedVariables false
set_option linter.unusedSimpArgs false
/-- What is looked at of a depot is small. -/
def smD (d : Dep) : Prop := (∀ b ∈ d.L, b.name.size ≤ 1000 ∧ smE b.L ∧ smL b.U) ∧ d.L.length ≤ 1000
theorem fewD_sm (d : Dep) : smD (fewD d) := by
  refine ⟨fun b hb => ?_, ?_⟩
  · obtain ⟨x, -, rfl⟩ := List.mem_map.1 hb
    exact fewB_small x
  · show ((d.L.take 7).map fewB).length ≤ 1000
    rw [List.length_map, List.length_take]; omega
theorem okD_items {d : Dep} (h : okD d) : ∀ x ∈ depI d, okIZ x := depI_ok fun b hb => okB_tiny (okD_all h b hb).1
theorem okD_len {d : Dep} (h : okD d) : (depI d).length ≤ 13201 := by
  have := okD_few h
  unfold depI
  rw [List.length_cons]; omega
/-- The items of a depot, in their order. -/
def itsD (d : Dep) (L : List Itm) : Prop := L.Perm (depI d) ∧ Asc Itm.n L ∧ (∀ x ∈ L, okIZ x) ∧ L.length ≤ 13201
set_option maxHeartbeats 4000000 in
theorem of_all (d : Dep) (dv : Value) (w : World) (R : Bool) (hR : Chk (okD d) R) (hs : smD d) (ht : Bks w w.heap.size dv d.L) :
    Calls Tryz.prog 12 #[.agg #[.int .i64 d.now, dv]] w fun e w' => ∃ v', e = .returned (.tuple #[v', .int .i64 (chkE R)]) ∧ Q w w' ∧ (R = false → v' = .slice none 0 0) ∧ (R = true → ∃ L', itsD d L' ∧ OwnI w.heap.size w' v' L') := by
  have C1 := Lib.hid (fun (x : World) (q : Q w x) => depCheck_any d dv x R hR hs.1 hs.2 (ht.on q))
  cases R with
  | true =>
    have hd : okD d := by
      rcases hR with ⟨-, h⟩ | ⟨h, -⟩
      · exact h
      · cases h
    refine (of_any d dv w ⟨hd.1.1, by have := hd.1.2; omega⟩ (fun b hb => okB_tiny (okD_all hd b hb).1) (by have := okD_few hd; omega) hs.2 ht (fun x q => C1.out x q)).mono ?_
    rintro e w' ⟨v', L', rfl, hp, hs, ho, q⟩
    exact ⟨v', rfl, q, fun h => (by cases h), fun _ => ⟨L', ⟨hp, depI_asc hp hs (okD_pair hd), fun x hx => okD_items hd x (hp.mem_iff.1 hx), by rw [hp.length_eq]; exact okD_len hd⟩, ho⟩⟩
  | false =>
    obtain ⟨A, c, rfl⟩ := ht.form
    have q0 := (Q.refl w).alloc (.cells #[.int .i64 d.now, .slice A d.L.length c] 24)
    clear ht hR hs
    go_enter Tryz.func12, Tryz.ntmps12
    go_wp2_with fail
    refine (C1.out _ q0).mono ?_
    rintro e w1 ⟨rfl, q1⟩
    go_wp2_with fail
    go_ret2
    exact ⟨_, rfl, q0.trans q1, fun _ => rfl, fun h => (by cases h)⟩
end Go.Proofs.YtbilnomafloopaaGreat

namespace Go.Proofs.YtbilnomafloopaaGreat
set_option maxRecDepth 100000
open Go.ChangeShapes Go.WideShapes Go.ChangeAt Go.RowKit
set_option linter.unusedVariables false
set_option linter.unusedSimpArgs false
theorem diff_self {A : List Itm} {c : List Chg} (h : DiffIs A A c) : c = [] := by
  cases c with
  | nil => rfl
  | cons x r =>
    exfalso
    rcases (h.2 x).1 (by simp) with ⟨y, hy, hn, -⟩ | ⟨y, hy, hn, -⟩
    · exact hn hy
    · exact hn y hy rfl
set_option maxHeartbeats 4000000 in
theorem awakeI_any (w : World) : Calls Tryz.prog 14 #[] w fun e w' => e = .returned (.bool true) ∧ Q w w' := by
  have C1 := Lib.hid of0_any
  have C2 := Lib.hid (fun x => build0_any [] (.slice none 0 0) x false (by simp) (by simp) (by simp) (Itms.nil _ _))
  have C3 := Lib.hid (fun (x : World) (v : Value) (h : Itms x x.heap.size v [itT]) => build0_any [itT] v x true (by simp) (by simp) (by simp) h)
  have C4 := Lib.hid same0_any
  have C5 := Lib.hid (fun (x : World) (v : Value) (h : Itms x x.heap.size v [itT]) => diff_any [itT] [itT] v v x (by simp) (by simp) h h)
  have hb2 : bE false = 2 := rfl
  have hb0 : bE true = 0 := rfl
  rw [hb2] at C2
  rw [hb0] at C3
  go_enter Tryz.func14, Tryz.ntmps14
  go_wp2_with fail
  refine (C1.out _).mono ?_
  rintro e w1 ⟨v1, rfl, o1, q1⟩
  have rd := OwnI.read o1 (fun x hx => by rw [List.mem_singleton] at hx; rw [hx]; exact itT_ok)
  obtain ⟨A, c, rfl⟩ := rd.form
  have R1 := Lib.hid rd
  have hlen : [itT].length = 1 := rfl
  rw [hlen] at R1
  rw [hlen]
  clear C1 rd o1
  go_wp2_with fail
  refine (C2.out _).mono ?_
  rintro e w2 ⟨rfl, q2⟩
  have b2 := Bx.new w2 24 #[.int .i64 0, .slice none 0 0]
  have q3 := (Q.refl w2).alloc (.cells #[.int .i64 0, .slice none 0 0] 24)
  have R2 := Lib.hid ((R1.out.on q2).on q3)
  clear C2
  go_wp2_with fail
  refine (C3.out _ _ R2.out).mono ?_
  rintro e w3 ⟨rfl, q4⟩
  have b3 := Bx.new w3 24 #[.int .i64 0, .slice none 0 0]
  have q5 := (Q.refl w3).alloc (.cells #[.int .i64 0, .slice none 0 0] 24)
  have R3 := Lib.hid ((R2.out.on q4).on q5)
  have k0 := b3.cell 0
  have k1 := b3.cell 1
  simp only [List.getElem?_toArray, List.getElem?_cons_zero, List.getElem?_cons_succ] at k0 k1
  clear C3
  go_wp2_with fail
  refine (C4.out _).mono ?_
  rintro e w4 ⟨rfl, q6⟩
  have R4 := Lib.hid (R3.out.on q6)
  clear C4
  go_wp2_with fail
  refine (C5.out _ _ R4.out).mono ?_
  rintro e w5 ⟨v5, rfl, d5, o5, hd, q7⟩
  have hd2 := diff_self hd
  subst hd2
  obtain ⟨A5, c5, rfl⟩ := o5.form
  have hl0 : ([] : List Chg).length = 0 := rfl
  rw [hl0]
  clear C5 hd o5
  go_wp2_with fail
  go_ret
  exact ⟨rfl, ((((q1.trans q2).trans q3).trans q4).trans q5).trans (q6.trans q7)⟩
end Go.Proofs.YtbilnomafloopaaGreat

namespace Go.Proofs.YtbilnomafloopaaGreat
set_option maxRecDepth 100000
set_option linter.unusedVariables false
set_option linter.unusedSimpArgs false
@[go_sem] theorem binOp_string_geqI (t : TypeId) (a b : ByteArray) : binOp .geq t (.string a) (.string b) = pure (.bool !(Op.bytesLess a.toList b.toList)) := by simp [binOp, Op.stringOp]
theorem foldI_self {o l : List Itm} (ho : Asc Itm.n o) (hl : Asc Itm.n l) : ∀ x, x ∈ l.foldl (inG Itm.n) o ↔ x ∈ l ∨ (x ∈ o ∧ ∀ y ∈ l, y.n ≠ x.n) := by
  induction l generalizing o with
  | nil => intro x; simp
  | cons z r ih =>
    intro x
    obtain ⟨h1, h2⟩ := List.pairwise_cons.1 hl
    rw [List.foldl_cons, ih (inG_asc ho z) h2, inG_mem]
    simp only [List.mem_cons]
    constructor
    · rintro (h | ⟨rfl | ⟨h, k⟩, n⟩)
      · exact .inl (.inr h)
      · exact .inl (.inl rfl)
      · exact .inr ⟨h, fun y hy => by rcases hy with rfl | hy; exact fun e => k e.symm; exact n y hy⟩
    · rintro ((rfl | h) | ⟨h, n⟩)
      · exact .inr ⟨.inl rfl, fun y hy e => ltB_neZ (h1 y hy) e.symm⟩
      · exact .inl h
      · exact .inr ⟨.inr ⟨h, fun e => n z (.inl rfl) e.symm⟩, fun y hy => n y (.inr hy)⟩
theorem ofI_self {l : List Itm} (h : Asc Itm.n l) : ofI l = l :=
  Asc.same (f := Itm.n) (ofI_asc l) h fun x => by unfold ofI; rw [foldI_self Asc.nil h]; simp
theorem stepC_mem {o : List Itm} (h : Asc Itm.n o) (c : Chg) (z : Itm) : z ∈ stepC o c ↔ (c.gone = false ∧ z = ⟨c.n, c.val⟩) ∨ (z ∈ o ∧ z.n ≠ c.n) := by
  cases g : c.gone with
  | true =>
    rw [stepC_gone h g, List.mem_filter]
    simp
  | false =>
    unfold stepC
    rw [if_neg (by rw [g]; decide), inG_mem]
    simp
theorem foldC_mem {c : List Chg} (hc : c.Pairwise (fun x y => x.n ≠ y.n)) {o : List Itm} (ho : Asc Itm.n o) (z : Itm) :
    z ∈ c.foldl stepC o ↔ (∃ x ∈ c, x.gone = false ∧ z = ⟨x.n, x.val⟩) ∨ (z ∈ o ∧ ∀ x ∈ c, x.n ≠ z.n) := by
  induction c generalizing o with
  | nil => simp
  | cons y r ih =>
    obtain ⟨h1, h2⟩ := List.pairwise_cons.1 hc
    rw [List.foldl_cons, ih h2 (stepC_asc ho y), stepC_mem ho]
    constructor
    · rintro (⟨x, hx, k⟩ | ⟨⟨g, rfl⟩ | ⟨h, k⟩, n⟩)
      · exact .inl ⟨x, List.mem_cons_of_mem _ hx, k⟩
      · exact .inl ⟨y, by simp, g, rfl⟩
      · refine .inr ⟨h, fun x hx => ?_⟩
        rcases List.mem_cons.1 hx with rfl | hx
        · exact fun e => k e.symm
        · exact n x hx
    · rintro (⟨x, hx, g, e⟩ | ⟨h, n⟩)
      · rcases List.mem_cons.1 hx with rfl | hx
        · refine .inr ⟨.inl ⟨g, e⟩, fun u hu q => h1 u hu ?_⟩
          rw [e] at q; exact q.symm
        · exact .inl ⟨x, hx, g, e⟩
      · exact .inr ⟨.inr ⟨h, fun e => n y (by simp) e.symm⟩, fun x hx => n x (List.mem_cons_of_mem _ hx)⟩
theorem asc_ne {α : Type} {f : α → ByteArray} {c : List α} (h : Asc f c) : c.Pairwise (fun x y => f x ≠ f y) := List.Pairwise.imp (fun h => ltB_neZ h) h
theorem with_diff {X Y : List Itm} (hX : Asc Itm.n X) (hY : Asc Itm.n Y) {c : List Chg} (hd : DiffIs X Y c) : withI X c = Y := by
  unfold withI
  rw [ofI_self hX]
  refine Asc.same (f := Itm.n) (foldC_asc c hX) hY fun z => ?_
  rw [foldC_mem (asc_ne hd.1) hX]
  constructor
  · rintro (⟨x, hx, g, rfl⟩ | ⟨h, n⟩)
    · rcases (hd.2 x).1 hx with ⟨y, hy, -, rfl⟩ | ⟨y, hy, -, rfl⟩
      · exact hy
      · cases g
    · by_cases hz : ∃ x ∈ Y, x.n = z.n
      · obtain ⟨x, hx, e⟩ := hz
        by_cases hxX : x ∈ X
        · rw [← hX.one hxX h e]; exact hx
        · exact absurd e (n ⟨x.n, x.val, false⟩ ((hd.2 _).2 (.inl ⟨x, hx, hxX, rfl⟩)))
      · exact absurd rfl (n ⟨z.n, ⟨#[]⟩, true⟩ ((hd.2 _).2 (.inr ⟨z, h, fun x hx e => hz ⟨x, hx, e⟩, rfl⟩)))
  · intro h
    by_cases hzX : z ∈ X
    · refine .inr ⟨hzX, fun x hx e => ?_⟩
      rcases (hd.2 x).1 hx with ⟨y, hy, hn, rfl⟩ | ⟨y, hy, hn, rfl⟩
      · exact hn (by rw [hY.one hy h e]; exact hzX)
      · exact hn z h e.symm
    · exact .inl ⟨⟨z.n, z.val, false⟩, (hd.2 _).2 (.inl ⟨z, h, hzX, rfl⟩), rfl, rfl⟩
theorem diff_ok {X Y : List Itm} {p : ByteArray → ByteArray → Prop} (hX : ∀ x ∈ X, p x.n x.val) (hY : ∀ x ∈ Y, p x.n x.val) (h0 : ∀ n v, p n v → p n ⟨#[]⟩) {c : List Chg} (hd : DiffIs X Y c) : ∀ x ∈ c, p x.n x.val := by
  intro x hx
  rcases (hd.2 x).1 hx with ⟨y, hy, -, rfl⟩ | ⟨y, hy, -, rfl⟩
  · exact hY y hy
  · exact h0 _ _ (hX y hy)
theorem diff_len {X Y : List Itm} (hX : Asc Itm.n X) (hY : Asc Itm.n Y) {c : List Chg} (hd : DiffIs X Y c) : c.length ≤ X.length + Y.length := by
  have h := rdiff_is X Y
  rw [ofI_self hX, ofI_self hY] at h
  rw [hd.same h]
  have h1 := diffP_len X Y (Y.foldl (inG Itm.n) X)
  have h2 := foldI_len Y X
  omega
end Go.Proofs.YtbilnomafloopaaGreat

