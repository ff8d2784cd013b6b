/-
  Contract of the program's Crash.
-/
import Derived.Test.YteoondmakdghhaaRh
namespace Go.Proofs.Yteoondmakdghhaa
set_option maxRecDepth 100000
open Go.ChangeShapes Go.WideShapes Go.ChangeAt Go.RowKit
set_option linter.unusedVariables false
set_option linter.unusedSimpArgs false
set_option maxRecDepth 100000
theorem TB.own {w : World} {v : Value} {l : List ByteArray} {g : Nat} (h : TB w v l g) : v.ownBlock = some g := by rw [h.1]; rfl
/-- The rows' blocks, by a function. -/
theorem Fr.fn {w : World} {R : Nat} {P : List (Zn × Value)} (h : Fr w R P P.length) : ∃ G : Nat → Nat, (∀ k p, P[k]? = some p → TB w p.2 p.1.b (G k) ∧ R < G k) ∧ ∀ j k, j < k → k < P.length → G j < G k := by
  have key : ∀ (k : Nat) (p : Zn × Value), P[k]? = some p → ∃ g, p.2.ownBlock = some g ∧ TB w p.2 p.1.b g ∧ R < g ∧ ∀ (j : Nat) (q : Zn × Value) (h : Nat), j < k → P[j]? = some q → q.2.ownBlock = some h → h < g := fun k p hp => by
    have hk := (List.getElem?_eq_some_iff.1 hp).1
    obtain ⟨g, t, r, f⟩ := h k p hk hp
    exact ⟨g, t.own, t, r, f⟩
  refine ⟨fun k => ((P[k]?.map (fun p => p.2.ownBlock.getD 0)).getD 0), fun k p hp => ?_, fun j k hj hk => ?_⟩
  · obtain ⟨g, o, t, r, -⟩ := key k p hp
    simp only [hp, Option.map_some, Option.getD_some, o]
    exact ⟨t, r⟩
  · obtain ⟨g, o, t, r, f⟩ := key k P[k] (List.getElem?_eq_getElem hk)
    obtain ⟨g2, o2, -⟩ := key j P[j] (List.getElem?_eq_getElem (by omega))
    simp only [List.getElem?_eq_getElem hk, List.getElem?_eq_getElem (show j < P.length by omega), Option.map_some, Option.getD_some, o, o2]
    exact f j P[j] g2 hj (List.getElem?_eq_getElem (by omega)) o2
theorem Blks.sameBlock {w w' : World} {B g : Nat} {v : Value} {l : List ByteArray} (h : Blks w B v l) (hb : v.ownBlock = some g) (e : w'.heap[g]? = w.heap[g]?) : Blks w' B v l := by
  obtain ⟨A, c, rfl, e0, ez, f⟩ := h
  refine ⟨A, c, rfl, e0, ez, fun k hk => ?_⟩
  obtain ⟨a, rfl, e2, e3⟩ := f k hk
  simp only [Value.ownBlock, Option.some.injEq] at hb
  exact ⟨a, rfl, e2, (World.cell?_of_block (by rw [add_block, hb]; exact e)).trans e3⟩
theorem blks_row {w : World} {g m c : Nat} {L : List ByteArray} (h : Bx w g 9 (L.map Value.string).toArray) (hm : m ≤ L.length) (hc : m ≤ c) : Blks w w.heap.size (.slice (some ⟨g, 0, none⟩) m c) (L.take m) := by
  have hl : (L.take m).length = m := by rw [List.length_take]; omega
  refine ⟨some ⟨g, 0, none⟩, c, by rw [hl], by omega, by simp, fun k hk => ⟨_, rfl, h.lt, ?_⟩⟩
  rw [add_flat, h.cell, List.getElem_take]
  have : k < L.length := by omega
  simp [this]
theorem ZB.put3 {w : World} {R : Nat} {P : List (Zn × Value)} (h : ZB w R P) (k : Nat) (hk : k < P.length) (y : Zn) (u : Value) : ZB (((w.setCell ⟨R, k * 3, none⟩ u).setCell ⟨R, k * 3 + 1, none⟩ (.int .i64 y.firm)).setCell ⟨R, k * 3 + 2, none⟩ (.bool y.full)) R (P.set k (y, u)) := by
  have := ((Bx.set h (k * 3) u).set (k * 3 + 1) (.int .i64 y.firm)).set (k * 3 + 2) (.bool y.full)
  unfold ZB
  rw [zset P k hk]
  simpa using this
/-- What Crash leaves. -/
def CraC (x : Dv) (w : World) (e : Ending) (w' : World) : Prop := ∃ v, e = .returned (dvV x v) ∧ Zns w' w'.heap.size v x.zs ∧ Q w w'
set_option maxHeartbeats 16000000 in
theorem crashZ_any (d : Dv) (u : Value) (l : Ls) (KV : Value) (w : World) (hd : smD d) (ht : Zns w w.heap.size u d.zs) (hk : Ints w w.heap.size KV l.keep) :
    Calls Try.prog 13 #[dvV d u, .agg #[KV, .int .i64 l.zone, .int .i64 l.cut]] w (CraC (crashD d l) w) := by
  obtain ⟨A0, c0, rfl⟩ := ht.form
  obtain ⟨KA, kc, rfl⟩ := hk.form
  obtain ⟨n0, hn0⟩ : ∃ n, n = d.zs.length := ⟨_, rfl⟩
  have HN0 := Lib.hid hn0
  rw [← hn0] at ht ⊢
  have hl : n0 ≤ 100000 := by rw [hn0]; exact hd.1
  have HBL : Hid (∀ z ∈ d.zs, z.b.length ≤ 100000) := Lib.hid hd.2
  have CM := Lib.hid (fun (x : World) (q : Q w x) => mayZ_any d (.slice A0 n0 c0) x hd (ht.on q))
  have CA := Lib.hid (fun (x : World) (q : Q w x) => allApart_any d (.slice A0 n0 c0) x hd (ht.on q))
  have HV : Hid (∀ b, b = mayD d → crashD d l = if b = false then noDv else ⟨(List.range d.zs.length).map (fun i => crashZ l i (atZn d i)), d.size, d.mo, -1, false, d.bad⟩) := Lib.hid (fun b hb => by subst hb; rfl)
  have HOK : Hid (mayD d = true → ∀ z ∈ d.zs, (∃ f : Nat, z.firm = (f : Int) ∧ f ≤ z.b.length) ∧ ∀ s ∈ z.b, s.size = 64) := Lib.hid (fun h z hz => by
    have ho := okZn_iff.1 ((mayD_iff.1 h).2.2.2.2.2.2.2.1 z hz)
    exact ⟨⟨z.firm.toNat, by omega, by omega⟩, ho.2.2.2.1⟩)
  have HAT : Hid (∀ k (h : k < d.zs.length), atZn d k = d.zs[k]) := Lib.hid (fun k h => atZn_is h)
  have HINT := Lib.hid hk
  obtain ⟨RES, hRES⟩ : ∃ r, r = crashD d l := ⟨_, rfl⟩
  rw [← hRES] at HV ⊢
  obtain ⟨may, hmay⟩ : ∃ b, b = mayD d := ⟨_, rfl⟩
  have HV2 := Lib.hid (HV.out may hmay)
  rw [← hmay] at CM HOK
  clear hRES hmay ht hk hn0 hd HV
  obtain ⟨zs, size, mo, fuel, off, bad⟩ := d
  have HLL : Hid (∃ x, x = l) := Lib.hid ⟨l, rfl⟩
  obtain ⟨nk, hnk⟩ : ∃ n, n = l.keep.length := ⟨_, rfl⟩
  have HNK := Lib.hid hnk
  rw [← hnk] at HINT ⊢
  clear hnk
  obtain ⟨zone, hzo⟩ : ∃ z, z = l.zone := ⟨_, rfl⟩
  obtain ⟨cut, hcu⟩ : ∃ z, z = l.cut := ⟨_, rfl⟩
  have HZO := Lib.hid hzo
  have HCU := Lib.hid hcu
  rw [← hzo, ← hcu]
  clear hzo hcu
  rw [dvV] at CM CA ⊢
  simp only at HN0 CM CA HV2 HOK HAT HBL ⊢
  have HPO : Hid (∀ e w', (∃ v, e = .returned (dvV RES v) ∧ Zns w' w'.heap.size v RES.zs ∧ Q w w') → CraC RES w e w') := Lib.hid (fun e w' h => h)
  generalize CraC RES w = PO at HPO ⊢
  have b0 := ((Bx.new w 24 #[.slice A0 n0 c0, .int .i64 size, .int .i64 mo, .int .i64 fuel, .bool off, .int .i64 bad]).alloc (.cells #[.slice KA nk kc, .int .i64 zone, .int .i64 cut] 27)).alloc (.cells #[.slice none 0 0, .int .i64 0, .int .i64 0, .int .i64 0, .bool false, .int .i64 0] 24)
  have b1 := (Bx.new (w.alloc (.cells #[.slice A0 n0 c0, .int .i64 size, .int .i64 mo, .int .i64 fuel, .bool off, .int .i64 bad] 24)) 27 #[.slice KA nk kc, .int .i64 zone, .int .i64 cut]).alloc (.cells #[.slice none 0 0, .int .i64 0, .int .i64 0, .int .i64 0, .bool false, .int .i64 0] 24)
  have b2 := Bx.new ((w.alloc (.cells #[.slice A0 n0 c0, .int .i64 size, .int .i64 mo, .int .i64 fuel, .bool off, .int .i64 bad] 24)).alloc (.cells #[.slice KA nk kc, .int .i64 zone, .int .i64 cut] 27)) 24 #[.slice none 0 0, .int .i64 0, .int .i64 0, .int .i64 0, .bool false, .int .i64 0]
  have q0 := (((Q.refl w).alloc (.cells #[.slice A0 n0 c0, .int .i64 size, .int .i64 mo, .int .i64 fuel, .bool off, .int .i64 bad] 24)).alloc (.cells #[.slice KA nk kc, .int .i64 zone, .int .i64 cut] 27)).alloc (.cells #[.slice none 0 0, .int .i64 0, .int .i64 0, .int .i64 0, .bool false, .int .i64 0] 24)
  have hs0 : (((w.alloc (.cells #[.slice A0 n0 c0, .int .i64 size, .int .i64 mo, .int .i64 fuel, .bool off, .int .i64 bad] 24)).alloc (.cells #[.slice KA nk kc, .int .i64 zone, .int .i64 cut] 27)).alloc (.cells #[.slice none 0 0, .int .i64 0, .int .i64 0, .int .i64 0, .bool false, .int .i64 0] 24)).heap.size = w.heap.size + 1 + 1 + 1 := by simp
  simp only [World.size_alloc] at b1 b2
  obtain ⟨W0, hW0⟩ : ∃ z, z = ((w.alloc (.cells #[.slice A0 n0 c0, .int .i64 size, .int .i64 mo, .int .i64 fuel, .bool off, .int .i64 bad] 24)).alloc (.cells #[.slice KA nk kc, .int .i64 zone, .int .i64 cut] 27)).alloc (.cells #[.slice none 0 0, .int .i64 0, .int .i64 0, .int .i64 0, .bool false, .int .i64 0] 24) := ⟨_, rfl⟩
  rw [← hW0] at b0 b1 b2 q0 hs0
  have BX0 := Lib.hid b0
  have BX1 := Lib.hid b1
  have BX2 := Lib.hid b2
  have Q0 := Lib.hid q0
  have HS0 := Lib.hid hs0
  clear b0 b1 b2 q0 hs0
  go_enter Try.func13, Try.ntmps13
  go_upto_region 1 with fail
  rw [← hW0]
  clear hW0
  obtain ⟨x0, x1, x2, x3, x4, x5⟩ : W0.cell? ⟨w.heap.size, 0, none⟩ = some (.slice A0 n0 c0) ∧ W0.cell? ⟨w.heap.size, 1, none⟩ = some (.int .i64 size) ∧ W0.cell? ⟨w.heap.size, 2, none⟩ = some (.int .i64 mo) ∧ W0.cell? ⟨w.heap.size, 3, none⟩ = some (.int .i64 fuel) ∧ W0.cell? ⟨w.heap.size, 4, none⟩ = some (.bool off) ∧ W0.cell? ⟨w.heap.size, 5, none⟩ = some (.int .i64 bad) := ⟨BX0.out.cell 0, BX0.out.cell 1, BX0.out.cell 2, BX0.out.cell 3, BX0.out.cell 4, BX0.out.cell 5⟩
  have CM1 := Lib.hid (CM.out _ Q0.out)
  cases may with
  | false =>
    have HV3 : Hid (RES = noDv) := Lib.hid (by rw [HV2.out, if_pos rfl])
    go_wp2_with fail
    refine (CM1.out).mono ?_
    rintro e w6 ⟨rfl, d6⟩
    clear x0 x1 x2 x3 x4 x5
    have b6 := BX2.out.on d6
    have q6 := Q0.out.trans d6
    obtain ⟨g0, g1, g2, g3, g4, g5⟩ : w6.cell? ⟨w.heap.size + 1 + 1, 0, none⟩ = some (.slice none 0 0) ∧ w6.cell? ⟨w.heap.size + 1 + 1, 1, none⟩ = some (.int .i64 0) ∧ w6.cell? ⟨w.heap.size + 1 + 1, 2, none⟩ = some (.int .i64 0) ∧ w6.cell? ⟨w.heap.size + 1 + 1, 3, none⟩ = some (.int .i64 0) ∧ w6.cell? ⟨w.heap.size + 1 + 1, 4, none⟩ = some (.bool false) ∧ w6.cell? ⟨w.heap.size + 1 + 1, 5, none⟩ = some (.int .i64 0) := ⟨b6.cell 0, b6.cell 1, b6.cell 2, b6.cell 3, b6.cell 4, b6.cell 5⟩
    have l0 := b6.frozen 0
    have l1 := b6.frozen 1
    have l2 := b6.frozen 2
    have l3 := b6.frozen 3
    have l4 := b6.frozen 4
    have l5 := b6.frozen 5
    have c9 := ((((((b6.set 0 (.slice none 0 0)).set 1 (.int .i64 0)).set 2 (.int .i64 0)).set 3 (.int .i64 0)).set 4 (.bool false)).set 5 (.int .i64 0))
    have q9 : Q w ((((((w6.setCell ⟨w.heap.size + 1 + 1, 0, none⟩ (.slice none 0 0)).setCell ⟨w.heap.size + 1 + 1, 1, none⟩ (.int .i64 0)).setCell ⟨w.heap.size + 1 + 1, 2, none⟩ (.int .i64 0)).setCell ⟨w.heap.size + 1 + 1, 3, none⟩ (.int .i64 0)).setCell ⟨w.heap.size + 1 + 1, 4, none⟩ (.bool false)).setCell ⟨w.heap.size + 1 + 1, 5, none⟩ (.int .i64 0)) := (Q.set (Q.set (Q.set (Q.set (Q.set (Q.set q6 (by omega) _) (by omega) _) (by omega) _) (by omega) _) (by omega) _) (by omega) _)
    have k9 : ∀ j, j ≠ w.heap.size + 1 + 1 → ((((((w6.setCell ⟨w.heap.size + 1 + 1, 0, none⟩ (.slice none 0 0)).setCell ⟨w.heap.size + 1 + 1, 1, none⟩ (.int .i64 0)).setCell ⟨w.heap.size + 1 + 1, 2, none⟩ (.int .i64 0)).setCell ⟨w.heap.size + 1 + 1, 3, none⟩ (.int .i64 0)).setCell ⟨w.heap.size + 1 + 1, 4, none⟩ (.bool false)).setCell ⟨w.heap.size + 1 + 1, 5, none⟩ (.int .i64 0)).heap[j]? = w6.heap[j]? := fun j hne => (heap_set _ _ _ _ hne).trans ( (heap_set _ _ _ _ hne).trans ( (heap_set _ _ _ _ hne).trans ( (heap_set _ _ _ _ hne).trans ( (heap_set _ _ _ _ hne).trans ( heap_set _ _ _ _ hne)))))
    obtain ⟨w9, hw9⟩ : ∃ z, z = ((((((w6.setCell ⟨w.heap.size + 1 + 1, 0, none⟩ (.slice none 0 0)).setCell ⟨w.heap.size + 1 + 1, 1, none⟩ (.int .i64 0)).setCell ⟨w.heap.size + 1 + 1, 2, none⟩ (.int .i64 0)).setCell ⟨w.heap.size + 1 + 1, 3, none⟩ (.int .i64 0)).setCell ⟨w.heap.size + 1 + 1, 4, none⟩ (.bool false)).setCell ⟨w.heap.size + 1 + 1, 5, none⟩ (.int .i64 0)) := ⟨_, rfl⟩
    rw [← hw9] at c9 q9 k9
    simp only [List.setIfInBounds_toArray, List.set_cons_zero, List.set_cons_succ] at c9
    have C9 := Lib.hid c9
    have Q9 := Lib.hid q9
    have K9 := Lib.hid k9
    clear c9 q9 k9
    go_wp2_with fail
    rw [← hw9]
    clear hw9
    obtain ⟨k0, k1, k2, k3, k4, k5⟩ : w9.cell? ⟨w.heap.size + 1 + 1, 0, none⟩ = some (.slice none 0 0) ∧ w9.cell? ⟨w.heap.size + 1 + 1, 1, none⟩ = some (.int .i64 0) ∧ w9.cell? ⟨w.heap.size + 1 + 1, 2, none⟩ = some (.int .i64 0) ∧ w9.cell? ⟨w.heap.size + 1 + 1, 3, none⟩ = some (.int .i64 0) ∧ w9.cell? ⟨w.heap.size + 1 + 1, 4, none⟩ = some (.bool false) ∧ w9.cell? ⟨w.heap.size + 1 + 1, 5, none⟩ = some (.int .i64 0) := ⟨C9.out.cell 0, C9.out.cell 1, C9.out.cell 2, C9.out.cell 3, C9.out.cell 4, C9.out.cell 5⟩
    (try simp only [Exit.inBlock, Exit.then])
    refine bodyPost_ret (v := .agg #[.slice none 0 0, .int .i64 0, .int .i64 0, .int .i64 0, .bool false, .int .i64 0]) ?_ rfl ?_
    · simp [results, Try.results13, go_sem] at k0 k1 k2 k3 k4 k5 ⊢
      simp [k0, k1, k2, k3, k4, k5]
    · exact HPO.out _ _ ⟨.slice none 0 0, by rw [HV3.out]; rfl, by rw [HV3.out]; exact Zns.nil _ _, Q9.out⟩
  | true =>
    have HOK2 := Lib.hid (HOK.out rfl)
    have HV3 : Hid (RES = ⟨(List.range zs.length).map (fun i => crashZ l i (atZn ⟨zs, size, mo, fuel, off, bad⟩ i)), size, mo, -1, false, bad⟩) := Lib.hid (by rw [HV2.out, if_neg (by simp)])
    clear HOK HV2
    go_wp2_with fail
    refine (CM1.out).mono ?_
    rintro e w5 ⟨rfl, d5⟩
    clear x0 x1 x2 x3 x4 x5
    have D5 := Lib.hid d5
    clear d5
    have CA1 := Lib.hid (CA.out _ (Q0.out.trans D5.out))
    obtain ⟨x0, x1, x2, x3, x4, x5⟩ : w5.cell? ⟨w.heap.size, 0, none⟩ = some (.slice A0 n0 c0) ∧ w5.cell? ⟨w.heap.size, 1, none⟩ = some (.int .i64 size) ∧ w5.cell? ⟨w.heap.size, 2, none⟩ = some (.int .i64 mo) ∧ w5.cell? ⟨w.heap.size, 3, none⟩ = some (.int .i64 fuel) ∧ w5.cell? ⟨w.heap.size, 4, none⟩ = some (.bool off) ∧ w5.cell? ⟨w.heap.size, 5, none⟩ = some (.int .i64 bad) := ⟨(BX0.out.on D5.out).cell 0, (BX0.out.on D5.out).cell 1, (BX0.out.on D5.out).cell 2, (BX0.out.on D5.out).cell 3, (BX0.out.on D5.out).cell 4, (BX0.out.on D5.out).cell 5⟩
    go_wp2_with fail
    refine (CA1.out).mono ?_
    rintro e w6 ⟨R, P, rfl, hR, hP, hok, hz, hf, d6⟩
    clear x0 x1 x2 x3 x4 x5
    rw [dvV]
    simp only at hP ⊢
    rw [← HN0.out]
    have HP := Lib.hid hP
    have HOKP := Lib.hid hok
    have HZ := Lib.hid hz
    have HF := Lib.hid hf
    have HR : Hid (w.heap.size + 1 + 1 < R) := Lib.hid (by have := D5.out.size; have := HS0.out; omega)
    have D6 := Lib.hid (D5.out.trans d6)
    have hPn : P.length = n0 := by rw [HN0.out, ← HP.out, List.length_map]
    clear hP hok hz hf hR d6
    have b6 := BX0.out.on D6.out
    have b61 := BX1.out.on D6.out
    have b62 := BX2.out.on D6.out
    have q6 := Q0.out.trans D6.out
    obtain ⟨x0, x1, x2, x3, x4, x5⟩ : w6.cell? ⟨w.heap.size, 0, none⟩ = some (.slice A0 n0 c0) ∧ w6.cell? ⟨w.heap.size, 1, none⟩ = some (.int .i64 size) ∧ w6.cell? ⟨w.heap.size, 2, none⟩ = some (.int .i64 mo) ∧ w6.cell? ⟨w.heap.size, 3, none⟩ = some (.int .i64 fuel) ∧ w6.cell? ⟨w.heap.size, 4, none⟩ = some (.bool off) ∧ w6.cell? ⟨w.heap.size, 5, none⟩ = some (.int .i64 bad) := ⟨b6.cell 0, b6.cell 1, b6.cell 2, b6.cell 3, b6.cell 4, b6.cell 5⟩
    have l0 := b6.frozen 0
    have l1 := b6.frozen 1
    have l2 := b6.frozen 2
    have l3 := b6.frozen 3
    have l4 := b6.frozen 4
    have l5 := b6.frozen 5
    go_upto_region 4 with fail
    clear x0 x1 x2 x3 x4 x5 l0 l1 l2 l3 l4 l5
    have c_ := ((((((b6.set 0 (.slice (some ⟨R, 0, none⟩) n0 n0)).set 1 (.int .i64 size)).set 2 (.int .i64 mo)).set 3 (.int .i64 fuel)).set 4 (.bool off)).set 5 (.int .i64 bad))
    have q_ : Q w ((((((w6.setCell ⟨w.heap.size, 0, none⟩ (.slice (some ⟨R, 0, none⟩) n0 n0)).setCell ⟨w.heap.size, 1, none⟩ (.int .i64 size)).setCell ⟨w.heap.size, 2, none⟩ (.int .i64 mo)).setCell ⟨w.heap.size, 3, none⟩ (.int .i64 fuel)).setCell ⟨w.heap.size, 4, none⟩ (.bool off)).setCell ⟨w.heap.size, 5, none⟩ (.int .i64 bad)) := (Q.set (Q.set (Q.set (Q.set (Q.set (Q.set q6 (by omega) _) (by omega) _) (by omega) _) (by omega) _) (by omega) _) (by omega) _)
    have k_ : ∀ j, j ≠ w.heap.size → ((((((w6.setCell ⟨w.heap.size, 0, none⟩ (.slice (some ⟨R, 0, none⟩) n0 n0)).setCell ⟨w.heap.size, 1, none⟩ (.int .i64 size)).setCell ⟨w.heap.size, 2, none⟩ (.int .i64 mo)).setCell ⟨w.heap.size, 3, none⟩ (.int .i64 fuel)).setCell ⟨w.heap.size, 4, none⟩ (.bool off)).setCell ⟨w.heap.size, 5, none⟩ (.int .i64 bad)).heap[j]? = w6.heap[j]? := fun j hne => (heap_set _ _ _ _ hne).trans ( (heap_set _ _ _ _ hne).trans ( (heap_set _ _ _ _ hne).trans ( (heap_set _ _ _ _ hne).trans ( (heap_set _ _ _ _ hne).trans ( heap_set _ _ _ _ hne)))))
    have s_ : w6.heap.size ≤ ((((((w6.setCell ⟨w.heap.size, 0, none⟩ (.slice (some ⟨R, 0, none⟩) n0 n0)).setCell ⟨w.heap.size, 1, none⟩ (.int .i64 size)).setCell ⟨w.heap.size, 2, none⟩ (.int .i64 mo)).setCell ⟨w.heap.size, 3, none⟩ (.int .i64 fuel)).setCell ⟨w.heap.size, 4, none⟩ (.bool off)).setCell ⟨w.heap.size, 5, none⟩ (.int .i64 bad)).heap.size := by simp
    obtain ⟨w7, hw7⟩ : ∃ z, z = ((((((w6.setCell ⟨w.heap.size, 0, none⟩ (.slice (some ⟨R, 0, none⟩) n0 n0)).setCell ⟨w.heap.size, 1, none⟩ (.int .i64 size)).setCell ⟨w.heap.size, 2, none⟩ (.int .i64 mo)).setCell ⟨w.heap.size, 3, none⟩ (.int .i64 fuel)).setCell ⟨w.heap.size, 4, none⟩ (.bool off)).setCell ⟨w.heap.size, 5, none⟩ (.int .i64 bad)) := ⟨_, rfl⟩
    rw [← hw7] at c_ q_ k_ s_ ⊢
    clear hw7
    simp only [List.setIfInBounds_toArray, List.set_cons_zero, List.set_cons_succ] at c_
    have Cw7 : Hid (Bx w7 (w.heap.size) 24 #[.slice (some ⟨R, 0, none⟩) n0 n0, .int .i64 size, .int .i64 mo, .int .i64 fuel, .bool off, .int .i64 bad]) := Lib.hid c_
    have Qw7 := Lib.hid q_
    have Kw7 := Lib.hid k_
    have Sw7 := Lib.hid s_
    clear c_ q_ k_ s_
    have B1 := Lib.hid (b61.same (Kw7.out _ (by omega)))
    have B2 := Lib.hid (b62.same (Kw7.out _ (by omega)))
    have HZ7 : Hid (ZB w7 R P) := Lib.hid (Bx.same HZ.out (Kw7.out _ (by have := HR.out; omega)))
    have HF7 : Hid (Fr w7 R P P.length) := Lib.hid (HF.out.keep (fun j hj => Kw7.out j (by have := HR.out; omega)))
    clear b6 b61 b62 q6 HZ HF Kw7
    obtain ⟨G, hG1, hG2⟩ := HF7.out.fn
    have HG1 := Lib.hid hG1
    have HG2 := Lib.hid hG2
    clear hG1 hG2 HF7
    obtain ⟨x0, x1, x2, x3, x4, x5⟩ : w7.cell? ⟨w.heap.size, 0, none⟩ = some (.slice (some ⟨R, 0, none⟩) n0 n0) ∧ w7.cell? ⟨w.heap.size, 1, none⟩ = some (.int .i64 size) ∧ w7.cell? ⟨w.heap.size, 2, none⟩ = some (.int .i64 mo) ∧ w7.cell? ⟨w.heap.size, 3, none⟩ = some (.int .i64 fuel) ∧ w7.cell? ⟨w.heap.size, 4, none⟩ = some (.bool off) ∧ w7.cell? ⟨w.heap.size, 5, none⟩ = some (.int .i64 bad) := ⟨Cw7.out.cell 0, Cw7.out.cell 1, Cw7.out.cell 2, Cw7.out.cell 3, Cw7.out.cell 4, Cw7.out.cell 5⟩
    clear x1 x2 x3 x4 x5
    go_wp2_with fail
    go_loopw [18] (fun I wr => ∃ (i : Nat) (P' : List (Zn × Value)), i ≤ n0 ∧ I = .int .i64 i ∧ P'.length = n0 ∧ Hid (∀ k, i ≤ k → P'[k]? = P[k]?) ∧ Hid (∀ k p, k < i → P[k]? = some p → ∃ u, P'[k]? = some (crashZ l k p.1, u) ∧ u.ownBlock = some (G k) ∧ Blks wr wr.heap.size u (crashB l k p.1))
      ∧ Hid (ZB wr R P') ∧ Hid (∀ k p, i ≤ k → P[k]? = some p → TB wr p.2 p.1.b (G k)) ∧ Hid (Below R w7 wr)) (fun I _ => n0 - (intOf I).toNat)
    case atStart => exact ⟨0, P, Nat.zero_le _, rfl, hPn, Lib.hid (fun _ _ => rfl), Lib.hid (fun k p hk => absurd hk (by omega)), HZ7, Lib.hid (fun k p _ hp => (HG1.out k p hp).1), Lib.hid (Below.refl _ _)⟩
    case round =>
      obtain ⟨i, P', hil, rfl, hPl, HT, HC, HZ, HW, HB⟩ := hrel
      clear x0
      have hB0 : w.heap.size < R := by have := HR.out; omega
      have hB1 : w.heap.size + 1 < R := by have := HR.out; omega
      have hB2 : w.heap.size + 1 + 1 < R := by have := HR.out; omega
      by_cases hlt : i < n0
      · have hilt : (i : Int) < (n0 : Int) := by omega
        have hiP : i < P.length := by omega
        have hiP' : i < P'.length := by omega
        obtain ⟨⟨x, v⟩, hxv⟩ : ∃ p, p = P[i] := ⟨_, rfl⟩
        have hpi : P[i]? = some (x, v) := by rw [List.getElem?_eq_getElem hiP, ← hxv]
        have hpi' : P'[i]? = some (x, v) := (HT.out i (Nat.le_refl _)).trans hpi
        have htb := HW.out i (x, v) (Nat.le_refl _) hpi
        obtain ⟨hv, hbx⟩ := htb
        simp only at hv hbx
        have hxz : x ∈ zs := by rw [← HP.out]; exact List.mem_map.2 ⟨(x, v), List.mem_of_getElem? hpi, rfl⟩
        obtain ⟨⟨f, hf, hfl⟩, h64⟩ := HOK2.out x hxz
        have hxl := HBL.out x hxz
        have hRG := (HG1.out i (x, v) hpi).2
        have hD := Cw7.out.same (HB.out.block _ hB0)
        have hL := B1.out.same (HB.out.block _ hB1)
        have hQ : Q w wr := Below.trans Qw7.out (Below.mono HB.out (by have := HR.out; omega))
        rw [hv] at hpi'
        have C := Lib.hid (kept_any i R (G i) n0 (w.heap.size) (w.heap.size + 1) x P' l KA kc f size mo fuel bad off wr hD (by rw [← HNK.out, ← HZO.out, ← HCU.out]; exact hL) (by rw [← HNK.out]; exact HINT.out.on hQ) HZ.out hpi' hbx hPl.symm hl hxl hf hfl h64 hB0 hB1 hRG)
        have HPI := Lib.hid hpi
        have HPI' := Lib.hid hpi'
        have x0 := hD.cell 0
        simp only [List.getElem?_toArray, List.getElem?_cons_zero] at x0
        have HRG := Lib.hid hRG
        have HD := Lib.hid hD
        have hGl : Hid (G i < wr.heap.size) := Lib.hid hbx.lt
        clear hxv hpi hpi' hv hbx hxz hf hfl h64 hxl hRG hD hL hQ
        go_wp2_with fail
        refine (C.out).mono ?_
        rintro e w8 ⟨L, rfl, hb8, hL8, hC8, hK8⟩
        clear x0
        have hne : R ≠ G i := by have := HRG.out; omega
        have z8 : ZB w8 R P' := (hK8.block R HZ.out.lt (fun e => hne (by injection e))).trans HZ.out
        have D8 := (HD.out.same (hK8.block (w.heap.size) HD.out.lt (fun e => by injection e with e; have := HRG.out; omega)))
        have y0 := z8.cell i hiP' (j := 0) (by omega)
        have y1 := z8.cell i hiP' (j := 1) (by omega)
        have y2 := z8.cell i hiP' (j := 2) (by omega)
        have hPe : P'[i] = (x, .slice (some ⟨G i, 0, none⟩) x.b.length x.b.length) := by
          have := HPI'.out
          rw [List.getElem?_eq_getElem hiP'] at this
          injection this
        rw [hPe] at y0 y1 y2
        simp only [zcl, List.getElem?_cons_zero, List.getElem?_cons_succ, Nat.add_zero] at y0 y1 y2
        have g0 := Bx.frozen z8 (i * 3)
        have g1 := Bx.frozen z8 (i * 3 + 1)
        have g2 := Bx.frozen z8 (i * 3 + 2)
        have x0 := D8.cell 0
        simp only [List.getElem?_toArray, List.getElem?_cons_zero] at x0
        obtain ⟨CB, hCB⟩ : ∃ c, c = crashB l i x := ⟨_, rfl⟩
        have HCZ : Hid (∀ b, b = decide (0 < CB.length) → crashZ l i x = ⟨CB, (CB.length : Nat), b⟩) := Lib.hid (fun b hb => by subst hb hCB; rfl)
        have HCB := Lib.hid hCB
        rw [← hCB] at hC8 ⊢
        have hm : CB.length ≤ L.length := by
          have := congrArg List.length hC8
          rw [List.length_take] at this
          omega
        have HBK : Hid (Blks w8 w8.heap.size (.slice (some ⟨G i, 0, none⟩) CB.length x.b.length) CB) := Lib.hid (by
          have := blks_row hb8 hm (c := x.b.length) (by omega)
          rwa [hC8] at this)
        obtain ⟨m, hmm⟩ : ∃ m, m = CB.length := ⟨_, rfl⟩
        rw [← hmm] at HBK HCZ ⊢
        obtain ⟨mx, hmx⟩ : ∃ m, m = x.b.length := ⟨_, rfl⟩
        rw [← hmx] at y0 HBK ⊢
        have hml : m ≤ 100000 := by
          have := HBL.out x (by rw [← HP.out]; exact List.mem_map.2 ⟨(x, v), List.mem_of_getElem? HPI.out, rfl⟩)
          omega
        have HK8 := Lib.hid hK8
        have HZ8 := Lib.hid z8
        clear hCB hb8 hL8 hC8 hm hmm hmx hK8 z8 D8 hPe
        have FIN : Hid (∀ bb y, bb = decide (0 < m) → y = ((w8.setCell ⟨R, i * 3, none⟩ (.slice (some ⟨G i, 0, none⟩) m mx)).setCell ⟨R, i * 3 + 1, none⟩ (.int .i64 (m : Nat))).setCell ⟨R, i * 3 + 2, none⟩ (.bool bb) →
            ∃ P'' : List (Zn × Value), P''.length = n0 ∧ Hid (∀ k, i + 1 ≤ k → P''[k]? = P[k]?) ∧ Hid (∀ k p, k < i + 1 → P[k]? = some p → ∃ u, P''[k]? = some (crashZ l k p.1, u) ∧ u.ownBlock = some (G k) ∧ Blks y y.heap.size u (crashB l k p.1))
              ∧ Hid (ZB y R P'') ∧ Hid (∀ k p, i + 1 ≤ k → P[k]? = some p → TB y p.2 p.1.b (G k)) ∧ Hid (Below R w7 y)) := Lib.hid (fun bb y hbb hy => by
          have hz9 := HZ8.out.put3 i hiP' (crashZ l i x) (.slice (some ⟨G i, 0, none⟩) m mx)
          rw [HCZ.out bb hbb] at hz9
          simp only at hz9
          rw [← hy] at hz9
          have hysz : y.heap.size = w8.heap.size := by rw [hy]; simp
          have hyo : ∀ j, j ≠ R → y.heap[j]? = w8.heap[j]? := fun j hj => by
            rw [hy]; exact (heap_set _ _ _ _ hj).trans ((heap_set _ _ _ _ hj).trans (heap_set _ _ _ _ hj))
          have hsame : ∀ k, k ≠ i → ∀ p, P[k]? = some p → G k < wr.heap.size → y.heap[G k]? = wr.heap[G k]? := fun k hki p hp hlt => by
            have h1 := (HG1.out k p hp).2
            have hkl := (List.getElem?_eq_some_iff.1 hp).1
            rw [hyo (G k) (by omega)]
            refine HK8.out.block (G k) hlt (fun e => ?_)
            injection e with e
            rcases Nat.lt_or_gt_of_ne hki with h | h
            · have := HG2.out k i h hiP; omega
            · have := HG2.out i k h hkl; omega
          refine ⟨P'.set i (⟨CB, (m : Nat), bb⟩, .slice (some ⟨G i, 0, none⟩) m mx), by rw [List.length_set]; exact hPl, Lib.hid (fun k hk => ?_), Lib.hid (fun k p hk hp => ?_), Lib.hid hz9, Lib.hid (fun k p hk hp => ?_), Lib.hid ?_⟩
          · rw [List.getElem?_set_ne (by omega)]; exact HT.out k (by omega)
          · by_cases e : k = i
            · subst e
              rw [HPI.out] at hp
              injection hp with hp
              subst hp
              refine ⟨.slice (some ⟨G k, 0, none⟩) m mx, by rw [List.getElem?_set_self hiP', HCZ.out bb hbb], rfl, ?_⟩
              rw [hysz, ← HCB.out]
              exact HBK.out.sameBlock (g := G k) rfl (hyo (G k) (by have := HRG.out; omega))
            · obtain ⟨u, h1, h2, h3⟩ := HC.out k p (by omega) hp
              refine ⟨u, by rw [List.getElem?_set_ne (fun x => e x.symm)]; exact h1, h2, ?_⟩
              have hlt : G k < wr.heap.size := by
                have h0 := (HG1.out k p hp).1.2.lt
                have := HB.out.size
                omega
              exact (h3.sameBlock h2 (hsame k e p hp hlt)).more (by have := HK8.out.size; omega)
          · have t := HW.out k p (by omega) hp
            exact ⟨t.1, t.2.same (hsame k (by omega) p hp t.2.lt)⟩
          · refine ⟨?_, ?_, ?_, ?_, fun j hj => ?_⟩
            · rw [hy]; exact HK8.out.os.trans HB.out.os
            · rw [hy]; exact HK8.out.tape.trans HB.out.tape
            · rw [hy]; exact HK8.out.output.trans HB.out.output
            · have := HK8.out.size; have := HB.out.size; omega
            · rw [hyo j (by omega), HK8.out.block j (by have := HB.out.size; have := HZ7.out.lt; omega) (fun e => by injection e with e; have := HRG.out; omega)]
              exact HB.out.block j hj)
        go_wp2_with fail
        go_roundw
        case rel =>
          obtain ⟨P'', a1, a2, a3, a4, a5, a6⟩ := FIN.out (decide (0 < m)) _ rfl rfl
          exact ⟨i + 1, P'', by omega, by go_num, a1, a2, a3, a4, a5, a6⟩
        case measure => simp [intOf]; omega
      · obtain rfl : i = n0 := by omega
        have hilt : ¬ (i : Int) < (i : Int) := by omega
        have hD := Cw7.out.same (HB.out.block _ hB0)
        have hR2 := B2.out.same (HB.out.block _ hB2)
        have hQ : Q w wr := Below.trans Qw7.out (Below.mono HB.out (by have := HR.out; omega))
        have x4 := hD.cell 4
        have x3 := hD.cell 3
        simp only [List.getElem?_toArray, List.getElem?_cons_zero, List.getElem?_cons_succ] at x3 x4
        have l4 := hD.frozen 4
        have l3 := hD.frozen 3
        go_upto_region 12 with fail
        clear x3 x4 l3 l4
        have c_ := (hD.set 4 (.bool false)).set 3 (.int .i64 (-1))
        have q_ : Q w ((wr.setCell ⟨w.heap.size, 4, none⟩ (.bool false)).setCell ⟨w.heap.size, 3, none⟩ (.int .i64 (-1))) := Q.set (Q.set hQ (Nat.le_refl _) _) (Nat.le_refl _) _
        have k_ : ∀ j, j ≠ w.heap.size → (((wr.setCell ⟨w.heap.size, 4, none⟩ (.bool false)).setCell ⟨w.heap.size, 3, none⟩ (.int .i64 (-1)))).heap[j]? = wr.heap[j]? := fun j hne => (heap_set _ _ _ _ hne).trans (heap_set _ _ _ _ hne)
        have r_ := (hR2.other (B2 := w.heap.size) (by omega) 4 (.bool false)).other (B2 := w.heap.size) (by omega) 3 (.int .i64 (-1))
        have s_ : wr.heap.size ≤ (((wr.setCell ⟨w.heap.size, 4, none⟩ (.bool false)).setCell ⟨w.heap.size, 3, none⟩ (.int .i64 (-1)))).heap.size := by simp
        obtain ⟨wa, hwa⟩ : ∃ z, z = ((wr.setCell ⟨w.heap.size, 4, none⟩ (.bool false)).setCell ⟨w.heap.size, 3, none⟩ (.int .i64 (-1))) := ⟨_, rfl⟩
        rw [← hwa] at c_ q_ k_ r_ s_ ⊢
        clear hwa
        simp only [List.setIfInBounds_toArray, List.set_cons_zero, List.set_cons_succ] at c_
        have SWA := s_
        clear s_
        have KA_ := Lib.hid k_
        have CA_ := Lib.hid c_
        have QA_ := Lib.hid q_
        clear k_ q_ c_ hD hR2 hQ
        obtain ⟨x0, x1, x2, x3, x4, x5⟩ : wa.cell? ⟨w.heap.size, 0, none⟩ = some (.slice (some ⟨R, 0, none⟩) i i) ∧ wa.cell? ⟨w.heap.size, 1, none⟩ = some (.int .i64 size) ∧ wa.cell? ⟨w.heap.size, 2, none⟩ = some (.int .i64 mo) ∧ wa.cell? ⟨w.heap.size, 3, none⟩ = some (.int .i64 (-1)) ∧ wa.cell? ⟨w.heap.size, 4, none⟩ = some (.bool false) ∧ wa.cell? ⟨w.heap.size, 5, none⟩ = some (.int .i64 bad) := ⟨CA_.out.cell 0, CA_.out.cell 1, CA_.out.cell 2, CA_.out.cell 3, CA_.out.cell 4, CA_.out.cell 5⟩
        obtain ⟨g0, g1, g2, g3, g4, g5⟩ : wa.cell? ⟨w.heap.size + 1 + 1, 0, none⟩ = some (.slice none 0 0) ∧ wa.cell? ⟨w.heap.size + 1 + 1, 1, none⟩ = some (.int .i64 0) ∧ wa.cell? ⟨w.heap.size + 1 + 1, 2, none⟩ = some (.int .i64 0) ∧ wa.cell? ⟨w.heap.size + 1 + 1, 3, none⟩ = some (.int .i64 0) ∧ wa.cell? ⟨w.heap.size + 1 + 1, 4, none⟩ = some (.bool false) ∧ wa.cell? ⟨w.heap.size + 1 + 1, 5, none⟩ = some (.int .i64 0) := ⟨r_.cell 0, r_.cell 1, r_.cell 2, r_.cell 3, r_.cell 4, r_.cell 5⟩
        have l0 := r_.frozen 0
        have l1 := r_.frozen 1
        have l2 := r_.frozen 2
        have l3 := r_.frozen 3
        have l4 := r_.frozen 4
        have l5 := r_.frozen 5
        have c9 := ((((((r_.set 0 (.slice (some ⟨R, 0, none⟩) i i)).set 1 (.int .i64 size)).set 2 (.int .i64 mo)).set 3 (.int .i64 (-1))).set 4 (.bool false)).set 5 (.int .i64 bad))
        have q9 : Q w ((((((wa.setCell ⟨w.heap.size + 1 + 1, 0, none⟩ (.slice (some ⟨R, 0, none⟩) i i)).setCell ⟨w.heap.size + 1 + 1, 1, none⟩ (.int .i64 size)).setCell ⟨w.heap.size + 1 + 1, 2, none⟩ (.int .i64 mo)).setCell ⟨w.heap.size + 1 + 1, 3, none⟩ (.int .i64 (-1))).setCell ⟨w.heap.size + 1 + 1, 4, none⟩ (.bool false)).setCell ⟨w.heap.size + 1 + 1, 5, none⟩ (.int .i64 bad)) := (Q.set (Q.set (Q.set (Q.set (Q.set (Q.set QA_.out (by omega) _) (by omega) _) (by omega) _) (by omega) _) (by omega) _) (by omega) _)
        have k9 : ∀ j, j ≠ w.heap.size + 1 + 1 → ((((((wa.setCell ⟨w.heap.size + 1 + 1, 0, none⟩ (.slice (some ⟨R, 0, none⟩) i i)).setCell ⟨w.heap.size + 1 + 1, 1, none⟩ (.int .i64 size)).setCell ⟨w.heap.size + 1 + 1, 2, none⟩ (.int .i64 mo)).setCell ⟨w.heap.size + 1 + 1, 3, none⟩ (.int .i64 (-1))).setCell ⟨w.heap.size + 1 + 1, 4, none⟩ (.bool false)).setCell ⟨w.heap.size + 1 + 1, 5, none⟩ (.int .i64 bad)).heap[j]? = wa.heap[j]? := fun j hne => (heap_set _ _ _ _ hne).trans ( (heap_set _ _ _ _ hne).trans ( (heap_set _ _ _ _ hne).trans ( (heap_set _ _ _ _ hne).trans ( (heap_set _ _ _ _ hne).trans ( heap_set _ _ _ _ hne)))))
        obtain ⟨w9, hw9⟩ : ∃ z, z = ((((((wa.setCell ⟨w.heap.size + 1 + 1, 0, none⟩ (.slice (some ⟨R, 0, none⟩) i i)).setCell ⟨w.heap.size + 1 + 1, 1, none⟩ (.int .i64 size)).setCell ⟨w.heap.size + 1 + 1, 2, none⟩ (.int .i64 mo)).setCell ⟨w.heap.size + 1 + 1, 3, none⟩ (.int .i64 (-1))).setCell ⟨w.heap.size + 1 + 1, 4, none⟩ (.bool false)).setCell ⟨w.heap.size + 1 + 1, 5, none⟩ (.int .i64 bad)) := ⟨_, rfl⟩
        rw [← hw9] at c9 q9 k9
        simp only [List.setIfInBounds_toArray, List.set_cons_zero, List.set_cons_succ] at c9
        have C9 := Lib.hid c9
        have Q9 := Lib.hid q9
        have K9 := Lib.hid k9
        clear c9 q9 k9
        have K9S : Hid (wr.heap.size ≤ w9.heap.size) := Lib.hid (by rw [hw9]; have := SWA; simpa using this)
        go_wp2_with fail
        rw [← hw9]
        clear hw9
        obtain ⟨k0, k1, k2, k3, k4, k5⟩ : w9.cell? ⟨w.heap.size + 1 + 1, 0, none⟩ = some (.slice (some ⟨R, 0, none⟩) i i) ∧ w9.cell? ⟨w.heap.size + 1 + 1, 1, none⟩ = some (.int .i64 size) ∧ w9.cell? ⟨w.heap.size + 1 + 1, 2, none⟩ = some (.int .i64 mo) ∧ w9.cell? ⟨w.heap.size + 1 + 1, 3, none⟩ = some (.int .i64 (-1)) ∧ w9.cell? ⟨w.heap.size + 1 + 1, 4, none⟩ = some (.bool false) ∧ w9.cell? ⟨w.heap.size + 1 + 1, 5, none⟩ = some (.int .i64 bad) := ⟨C9.out.cell 0, C9.out.cell 1, C9.out.cell 2, C9.out.cell 3, C9.out.cell 4, C9.out.cell 5⟩
        (try simp only [Exit.inBlock, Exit.then])
        refine bodyPost_ret (v := .agg #[.slice (some ⟨R, 0, none⟩) i i, .int .i64 size, .int .i64 mo, .int .i64 (-1), .bool false, .int .i64 bad]) ?_ rfl ?_
        · simp [results, Try.results13, go_sem] at k0 k1 k2 k3 k4 k5 ⊢
          simp [k0, k1, k2, k3, k4, k5]
        · refine HPO.out _ _ ⟨.slice (some ⟨R, 0, none⟩) i i, by rw [HV3.out]; rfl, ?_, Q9.out⟩
          rw [HV3.out]
          have hk : ∀ j, R ≤ j → w9.heap[j]? = wr.heap[j]? := fun j hj => by
            rw [K9.out j (by omega), KA_.out j (by omega)]
          have hz9 : ZB w9 R P' := Bx.same HZ.out (hk R (Nat.le_refl _))
          have hmap : P'.map (·.1) = (List.range zs.length).map (fun k => crashZ l k (atZn ⟨zs, size, mo, fuel, off, bad⟩ k)) := by
            refine List.ext_getElem? fun k => ?_
            rw [List.getElem?_map, List.getElem?_map]
            by_cases hk2 : k < i
            · have hkP : k < P.length := by omega
              obtain ⟨u, h1, -, -⟩ := HC.out k P[k] hk2 (List.getElem?_eq_getElem hkP)
              have hkz : k < zs.length := by have := HN0.out; omega
              rw [h1, List.getElem?_range hkz]
              have e1 : P[k].1 = zs[k] := by simp [← HP.out]
              have e2 := HAT.out k hkz
              simp only [Option.map_some]
              rw [e1, e2]
            · rw [List.getElem?_eq_none (by omega), List.getElem?_eq_none (by rw [List.length_range]; have := HN0.out; omega)]
              rfl
          have := ZB.zns hz9 rfl (n := i) (fun p hp => by
            obtain ⟨k, hk1, rfl⟩ := List.getElem_of_mem hp
            have hkP : k < P.length := by omega
            have hki : k < i := by omega
            obtain ⟨u, h1, h2, h3⟩ := HC.out k P[k] hki (List.getElem?_eq_getElem hkP)
            rw [List.getElem?_eq_getElem hk1] at h1
            injection h1 with h1
            rw [h1]
            have hb := HBL.out P[k].1 (by rw [← HP.out]; exact List.mem_map.2 ⟨P[k], List.getElem_mem hkP, rfl⟩)
            have hcl := (crashB_len l k P[k].1).2.1
            refine ⟨⟨by show (crashB l k P[k].1).length ≤ _; unfold maxLen; omega, by show _ ≤ ((crashB l k P[k].1).length : Int); omega, by show ((crashB l k P[k].1).length : Int) ≤ _; omega⟩, ?_⟩
            have hg := (HG1.out k P[k] (List.getElem?_eq_getElem hkP)).2
            exact (h3.sameBlock h2 (hk (G k) (by omega))).more (by have h1 := K9S.out; omega)) hPl.symm
          rw [hmap] at this
          exact this
end Go.Proofs.Yteoondmakdghhaa

