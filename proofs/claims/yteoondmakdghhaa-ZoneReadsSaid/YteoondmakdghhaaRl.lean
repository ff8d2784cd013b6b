/-
  Contract of the document's Crash.
-/
import Derived.Test.YteoondmakdghhaaRk
import Derived.Test.YteoondmakdghhaaRe
import Derived.Deep.RegionLaw
import Derived.Deep.CutBlock
namespace Go.Proofs.Yteoondmakdghhaa
set_option maxRecDepth 100000
open Go.ChangeShapes Go.WideShapes Go.ChangeAt Go.RowKit
set_option linter.unusedVariables false
set_option linter.unusedSimpArgs false
set_option maxRecDepth 100000
/-- The zones of which the first i are crashed. -/
def cz (d : Dv) (l : Ls) (i : Nat) : List Zn := (List.range d.zs.length).map fun k => if k < i then crashZ l k (atZn d k) else atZn d k
theorem cz_len (d : Dv) (l : Ls) (i : Nat) : (cz d l i).length = d.zs.length := by simp [cz]
theorem cz_zero (d : Dv) (l : Ls) : cz d l 0 = d.zs := by
  refine List.ext_getElem (by simp [cz]) fun k h1 h2 => ?_
  simp [cz, atZn_is h2]
theorem cz_end (d : Dv) (l : Ls) : cz d l d.zs.length = (List.range d.zs.length).map (fun k => crashZ l k (atZn d k)) := by
  unfold cz
  refine List.map_congr_left fun k hk => ?_
  rw [if_pos (List.mem_range.1 hk)]
theorem cz_step (d : Dv) (l : Ls) (i : Nat) (h : i < d.zs.length) : (cz d l i).set i (crashZ l i (atZn d i)) = cz d l (i + 1) := by
  refine List.ext_getElem (by simp [cz]) fun k h1 h2 => ?_
  rw [List.getElem_set]
  simp only [cz, List.getElem_map, List.getElem_range]
  by_cases e : i = k
  · subst e; simp
  · rw [if_neg e]
    by_cases h3 : k < i
    · rw [if_pos h3, if_pos (by omega)]
    · rw [if_neg h3, if_neg (by omega)]
theorem crashB_end (l : Ls) (i : Nat) (z : Zn) : keptN l i z = z.b.length → crashB l i z = z.b.take (keptN l i z) := by
  intro h
  unfold crashB
  rw [h, List.drop_length]
  simp
set_option maxHeartbeats 16000000 in
theorem rcrash_any (d : Dv) (u : Value) (l : Ls) (KV : Value) (w : World) (hd : smD d) (ht : Zns w w.heap.size u d.zs) (hk : Ints w w.heap.size KV l.keep) (hlc : okI64 l.cut) :
    Calls Try.prog 14 #[dvV d u, .agg #[KV, .int .i64 l.zone, .int .i64 l.cut]] w (CraC (crashD d l) w) := by
  obtain ⟨A0, c0, rfl⟩ := ht.form
  obtain ⟨KA, kc, rfl⟩ := hk.form
  obtain ⟨n0, hn0⟩ : ∃ n, n = d.zs.length := ⟨_, rfl⟩
  have HN0 := Lib.hid hn0
  rw [← hn0] at ht ⊢
  have hl : n0 ≤ 100000 := by rw [hn0]; exact hd.1
  have HBL : Hid (∀ z ∈ d.zs, z.b.length ≤ 100000) := Lib.hid hd.2
  have CM := Lib.hid (fun (x : World) (q : Q w x) => rMay_any d (.slice A0 n0 c0) x hd.1 (ht.on q))
  have HT := Lib.hid ht
  have HV : Hid (∀ b, b = mayD d → crashD d l = if b = false then noDv else ⟨(List.range d.zs.length).map (fun i => crashZ l i (atZn d i)), d.size, d.mo, -1, false, d.bad⟩) := Lib.hid (fun b hb => by subst hb; rfl)
  have HOK : Hid (mayD d = true → ∀ z ∈ d.zs, (∃ f : Nat, z.firm = (f : Int) ∧ f ≤ z.b.length) ∧ ∀ s ∈ z.b, s.size = 64) := Lib.hid (fun h z hz => by
    have ho := okZn_iff.1 ((mayD_iff.1 h).2.2.2.2.2.2.2.1 z hz)
    exact ⟨⟨z.firm.toNat, by omega, by omega⟩, ho.2.2.2.1⟩)
  have HAT : Hid (∀ k (h : k < d.zs.length), atZn d k = d.zs[k]) := Lib.hid (fun k h => atZn_is h)
  have HINT := Lib.hid hk
  have CZ0 := Lib.hid (cz_zero d l)
  have CZE := Lib.hid (cz_end d l)
  have CZS := Lib.hid (cz_step d l)
  have CZL := Lib.hid (cz_len d l)
  obtain ⟨Z, hZ⟩ : ∃ z, z = cz d l := ⟨_, rfl⟩
  rw [← hZ] at CZ0 CZE CZS CZL
  have CW := Lib.hid (fun (y : World) (i : Nat) (u : Value) (x : Zn) (v : Value) (hi : i < n0) (h : Zns y y.heap.size u (Z i)) (hx : okZ x) (hv : Blks y y.heap.size v x.b) => with_any ⟨Z i, d.size, d.mo, d.fuel, d.off, d.bad⟩ u i x v y (by rw [CZL.out]; exact hd.1) h hx hv)
  obtain ⟨RES, hRES⟩ : ∃ r, r = crashD d l := ⟨_, rfl⟩
  rw [← hRES] at HV ⊢
  obtain ⟨may, hmay⟩ : ∃ b, b = mayD d := ⟨_, rfl⟩
  have HV2 := Lib.hid (HV.out may hmay)
  rw [← hmay] at CM HOK
  clear hRES hmay ht hk hn0 hd HV hZ
  obtain ⟨zs, size, mo, fuel, off, bad⟩ := d
  obtain ⟨nk, hnk⟩ : ∃ n, n = l.keep.length := ⟨_, rfl⟩
  have HNK := Lib.hid hnk
  rw [← hnk] at HINT ⊢
  clear hnk
  obtain ⟨zone, hzo⟩ : ∃ z, z = l.zone := ⟨_, rfl⟩
  obtain ⟨cut, hcu⟩ : ∃ z, z = l.cut := ⟨_, rfl⟩
  have HZO := Lib.hid hzo
  have HCU := Lib.hid hcu
  rw [← hzo, ← hcu]
  rw [← hcu] at hlc
  clear hzo hcu
  rw [dvV] at CM ⊢
  unfold dvV znV at CW
  simp only at HN0 CM CW HV2 HOK HAT HBL CZ0 CZE CZS CZL HT ⊢
  have HPO : Hid (∀ e w', (∃ v, e = .returned (dvV RES v) ∧ Zns w' w'.heap.size v RES.zs ∧ Q w w') → CraC RES w e w') := Lib.hid (fun e w' h => h)
  generalize CraC RES w = PO at HPO ⊢
  have b0 := ((Bx.new w 24 #[.slice A0 n0 c0, .int .i64 size, .int .i64 mo, .int .i64 fuel, .bool off, .int .i64 bad]).alloc (.cells #[.slice KA nk kc, .int .i64 zone, .int .i64 cut] 27)).alloc (.cells #[.slice none 0 0, .int .i64 0, .int .i64 0, .int .i64 0, .bool false, .int .i64 0] 24)
  have b1 := (Bx.new (w.alloc (.cells #[.slice A0 n0 c0, .int .i64 size, .int .i64 mo, .int .i64 fuel, .bool off, .int .i64 bad] 24)) 27 #[.slice KA nk kc, .int .i64 zone, .int .i64 cut]).alloc (.cells #[.slice none 0 0, .int .i64 0, .int .i64 0, .int .i64 0, .bool false, .int .i64 0] 24)
  have b2 := Bx.new ((w.alloc (.cells #[.slice A0 n0 c0, .int .i64 size, .int .i64 mo, .int .i64 fuel, .bool off, .int .i64 bad] 24)).alloc (.cells #[.slice KA nk kc, .int .i64 zone, .int .i64 cut] 27)) 24 #[.slice none 0 0, .int .i64 0, .int .i64 0, .int .i64 0, .bool false, .int .i64 0]
  have q0 := (((Q.refl w).alloc (.cells #[.slice A0 n0 c0, .int .i64 size, .int .i64 mo, .int .i64 fuel, .bool off, .int .i64 bad] 24)).alloc (.cells #[.slice KA nk kc, .int .i64 zone, .int .i64 cut] 27)).alloc (.cells #[.slice none 0 0, .int .i64 0, .int .i64 0, .int .i64 0, .bool false, .int .i64 0] 24)
  have hs0 : (((w.alloc (.cells #[.slice A0 n0 c0, .int .i64 size, .int .i64 mo, .int .i64 fuel, .bool off, .int .i64 bad] 24)).alloc (.cells #[.slice KA nk kc, .int .i64 zone, .int .i64 cut] 27)).alloc (.cells #[.slice none 0 0, .int .i64 0, .int .i64 0, .int .i64 0, .bool false, .int .i64 0] 24)).heap.size = w.heap.size + 1 + 1 + 1 := by simp
  simp only [World.size_alloc] at b1 b2
  obtain ⟨W0, hW0⟩ : ∃ z, z = ((w.alloc (.cells #[.slice A0 n0 c0, .int .i64 size, .int .i64 mo, .int .i64 fuel, .bool off, .int .i64 bad] 24)).alloc (.cells #[.slice KA nk kc, .int .i64 zone, .int .i64 cut] 27)).alloc (.cells #[.slice none 0 0, .int .i64 0, .int .i64 0, .int .i64 0, .bool false, .int .i64 0] 24) := ⟨_, rfl⟩
  rw [← hW0] at b0 b1 b2 q0 hs0
  have BX0 := Lib.hid b0
  have BX1 := Lib.hid b1
  have BX2 := Lib.hid b2
  have Q0 := Lib.hid q0
  have HS0 := Lib.hid hs0
  clear b0 b1 b2 q0 hs0
  go_enter Try.func14, Try.ntmps14
  go_upto_region 1 with fail
  rw [← hW0]
  clear hW0
  obtain ⟨x0, x1, x2, x3, x4, x5⟩ : W0.cell? ⟨w.heap.size, 0, none⟩ = some (.slice A0 n0 c0) ∧ W0.cell? ⟨w.heap.size, 1, none⟩ = some (.int .i64 size) ∧ W0.cell? ⟨w.heap.size, 2, none⟩ = some (.int .i64 mo) ∧ W0.cell? ⟨w.heap.size, 3, none⟩ = some (.int .i64 fuel) ∧ W0.cell? ⟨w.heap.size, 4, none⟩ = some (.bool off) ∧ W0.cell? ⟨w.heap.size, 5, none⟩ = some (.int .i64 bad) := ⟨BX0.out.cell 0, BX0.out.cell 1, BX0.out.cell 2, BX0.out.cell 3, BX0.out.cell 4, BX0.out.cell 5⟩
  have CM1 := Lib.hid (CM.out _ Q0.out)
  cases may with
  | false =>
    have HV3 : Hid (RES = noDv) := Lib.hid (by rw [HV2.out, if_pos rfl])
    go_wp2_with fail
    refine (CM1.out).mono ?_
    rintro e w6 ⟨rfl, d6⟩
    clear x0 x1 x2 x3 x4 x5
    have b6 := BX2.out.on d6
    have q6 := Q0.out.trans d6
    obtain ⟨g0, g1, g2, g3, g4, g5⟩ : w6.cell? ⟨w.heap.size + 1 + 1, 0, none⟩ = some (.slice none 0 0) ∧ w6.cell? ⟨w.heap.size + 1 + 1, 1, none⟩ = some (.int .i64 0) ∧ w6.cell? ⟨w.heap.size + 1 + 1, 2, none⟩ = some (.int .i64 0) ∧ w6.cell? ⟨w.heap.size + 1 + 1, 3, none⟩ = some (.int .i64 0) ∧ w6.cell? ⟨w.heap.size + 1 + 1, 4, none⟩ = some (.bool false) ∧ w6.cell? ⟨w.heap.size + 1 + 1, 5, none⟩ = some (.int .i64 0) := ⟨b6.cell 0, b6.cell 1, b6.cell 2, b6.cell 3, b6.cell 4, b6.cell 5⟩
    have l0 := b6.frozen 0
    have l1 := b6.frozen 1
    have l2 := b6.frozen 2
    have l3 := b6.frozen 3
    have l4 := b6.frozen 4
    have l5 := b6.frozen 5
    have c9 := ((((((b6.set 0 (.slice none 0 0)).set 1 (.int .i64 0)).set 2 (.int .i64 0)).set 3 (.int .i64 0)).set 4 (.bool false)).set 5 (.int .i64 0))
    have q9 : Q w ((((((w6.setCell ⟨w.heap.size + 1 + 1, 0, none⟩ (.slice none 0 0)).setCell ⟨w.heap.size + 1 + 1, 1, none⟩ (.int .i64 0)).setCell ⟨w.heap.size + 1 + 1, 2, none⟩ (.int .i64 0)).setCell ⟨w.heap.size + 1 + 1, 3, none⟩ (.int .i64 0)).setCell ⟨w.heap.size + 1 + 1, 4, none⟩ (.bool false)).setCell ⟨w.heap.size + 1 + 1, 5, none⟩ (.int .i64 0)) := (Q.set (Q.set (Q.set (Q.set (Q.set (Q.set q6 (by omega) _) (by omega) _) (by omega) _) (by omega) _) (by omega) _) (by omega) _)
    have k9 : ∀ j, j ≠ w.heap.size + 1 + 1 → ((((((w6.setCell ⟨w.heap.size + 1 + 1, 0, none⟩ (.slice none 0 0)).setCell ⟨w.heap.size + 1 + 1, 1, none⟩ (.int .i64 0)).setCell ⟨w.heap.size + 1 + 1, 2, none⟩ (.int .i64 0)).setCell ⟨w.heap.size + 1 + 1, 3, none⟩ (.int .i64 0)).setCell ⟨w.heap.size + 1 + 1, 4, none⟩ (.bool false)).setCell ⟨w.heap.size + 1 + 1, 5, none⟩ (.int .i64 0)).heap[j]? = w6.heap[j]? := fun j hne => (heap_set _ _ _ _ hne).trans ( (heap_set _ _ _ _ hne).trans ( (heap_set _ _ _ _ hne).trans ( (heap_set _ _ _ _ hne).trans ( (heap_set _ _ _ _ hne).trans ( heap_set _ _ _ _ hne)))))
    obtain ⟨w9, hw9⟩ : ∃ z, z = ((((((w6.setCell ⟨w.heap.size + 1 + 1, 0, none⟩ (.slice none 0 0)).setCell ⟨w.heap.size + 1 + 1, 1, none⟩ (.int .i64 0)).setCell ⟨w.heap.size + 1 + 1, 2, none⟩ (.int .i64 0)).setCell ⟨w.heap.size + 1 + 1, 3, none⟩ (.int .i64 0)).setCell ⟨w.heap.size + 1 + 1, 4, none⟩ (.bool false)).setCell ⟨w.heap.size + 1 + 1, 5, none⟩ (.int .i64 0)) := ⟨_, rfl⟩
    rw [← hw9] at c9 q9 k9
    simp only [List.setIfInBounds_toArray, List.set_cons_zero, List.set_cons_succ] at c9
    have C9 := Lib.hid c9
    have Q9 := Lib.hid q9
    have K9 := Lib.hid k9
    clear c9 q9 k9
    go_wp2_with fail
    rw [← hw9]
    clear hw9
    obtain ⟨k0, k1, k2, k3, k4, k5⟩ : w9.cell? ⟨w.heap.size + 1 + 1, 0, none⟩ = some (.slice none 0 0) ∧ w9.cell? ⟨w.heap.size + 1 + 1, 1, none⟩ = some (.int .i64 0) ∧ w9.cell? ⟨w.heap.size + 1 + 1, 2, none⟩ = some (.int .i64 0) ∧ w9.cell? ⟨w.heap.size + 1 + 1, 3, none⟩ = some (.int .i64 0) ∧ w9.cell? ⟨w.heap.size + 1 + 1, 4, none⟩ = some (.bool false) ∧ w9.cell? ⟨w.heap.size + 1 + 1, 5, none⟩ = some (.int .i64 0) := ⟨C9.out.cell 0, C9.out.cell 1, C9.out.cell 2, C9.out.cell 3, C9.out.cell 4, C9.out.cell 5⟩
    (try simp only [Exit.inBlock, Exit.then])
    refine bodyPost_ret (v := .agg #[.slice none 0 0, .int .i64 0, .int .i64 0, .int .i64 0, .bool false, .int .i64 0]) ?_ rfl ?_
    · simp [results, Try.results14, go_sem] at k0 k1 k2 k3 k4 k5 ⊢
      simp [k0, k1, k2, k3, k4, k5]
    · exact HPO.out _ _ ⟨.slice none 0 0, by rw [HV3.out]; rfl, by rw [HV3.out]; exact Zns.nil _ _, Q9.out⟩
  | true =>
    have HOK2 := Lib.hid (HOK.out rfl)
    have HV3 : Hid (RES = ⟨Z n0, size, mo, -1, false, bad⟩) := Lib.hid (by rw [HV2.out, if_neg (by simp), HN0.out, CZE.out])
    clear HOK HV2
    go_wp2_with fail
    refine (CM1.out).mono ?_
    rintro e w5 ⟨rfl, d5⟩
    clear x0 x1 x2 x3 x4 x5
    have X0 := Lib.hid (BX0.out.on d5)
    have X1 := Lib.hid (BX1.out.on d5)
    have X2 := Lib.hid (BX2.out.on d5)
    have QX := Lib.hid (Q0.out.trans d5)
    have HSX : Hid (w.heap.size + 1 + 1 < w5.heap.size) := Lib.hid X2.out.lt
    obtain ⟨x0, x1, x2, x3, x4, x5⟩ : w5.cell? ⟨w.heap.size, 0, none⟩ = some (.slice A0 n0 c0) ∧ w5.cell? ⟨w.heap.size, 1, none⟩ = some (.int .i64 size) ∧ w5.cell? ⟨w.heap.size, 2, none⟩ = some (.int .i64 mo) ∧ w5.cell? ⟨w.heap.size, 3, none⟩ = some (.int .i64 fuel) ∧ w5.cell? ⟨w.heap.size, 4, none⟩ = some (.bool off) ∧ w5.cell? ⟨w.heap.size, 5, none⟩ = some (.int .i64 bad) := ⟨X0.out.cell 0, X0.out.cell 1, X0.out.cell 2, X0.out.cell 3, X0.out.cell 4, X0.out.cell 5⟩
    have bp := Bx.new w5 24 #[.slice A0 n0 c0, .int .i64 size, .int .i64 mo, .int .i64 fuel, .bool off, .int .i64 bad]
    have qp := (Q.refl w5).alloc (.cells #[.slice A0 n0 c0, .int .i64 size, .int .i64 mo, .int .i64 fuel, .bool off, .int .i64 bad] 24)
    have hzp : Hid (Zns (w5.alloc (.cells #[.slice A0 n0 c0, .int .i64 size, .int .i64 mo, .int .i64 fuel, .bool off, .int .i64 bad] 24)) (w5.alloc (.cells #[.slice A0 n0 c0, .int .i64 size, .int .i64 mo, .int .i64 fuel, .bool off, .int .i64 bad] 24)).heap.size (.slice A0 n0 c0) (Z 0)) := Lib.hid (by rw [CZ0.out]; exact HT.out.on (QX.out.trans qp))
    obtain ⟨p5, hp5⟩ : ∃ p, p = w5.heap.size := ⟨_, rfl⟩
    obtain ⟨W2, hW2⟩ : ∃ z, z = w5.alloc (.cells #[.slice A0 n0 c0, .int .i64 size, .int .i64 mo, .int .i64 fuel, .bool off, .int .i64 bad] 24) := ⟨_, rfl⟩
    rw [← hp5, ← hW2] at bp
    rw [← hp5] at HSX
    rw [← hW2] at qp hzp
    have HP5 := Lib.hid hp5
    go_upto_region 4 with fail
    rw [← hp5, ← hW2]
    clear hp5 hW2 x0 x1 x2 x3 x4 x5 d5
    have BP := Lib.hid bp
    have QP := Lib.hid qp
    clear bp qp
    go_wp2_with fail
    go_loopw [6] (fun I wr => ∃ (i : Nat) (A5 : Option Addr) (c5 : Nat), i ≤ n0 ∧ I = .int .i64 i ∧ Hid (Bx wr p5 24 #[.slice A5 n0 c5, .int .i64 size, .int .i64 mo, .int .i64 fuel, .bool off, .int .i64 bad]) ∧ Hid (Zns wr wr.heap.size (.slice A5 n0 c5) (Z i)) ∧ Hid (Q w5 wr)) (fun I _ => n0 - (intOf I).toNat)
    case atStart => exact ⟨0, A0, c0, Nat.zero_le _, rfl, BP, hzp, QP⟩
    case round =>
      obtain ⟨i, A5, c5, hil, rfl, HB, HZ, HQ⟩ := hrel
      obtain ⟨W3, hW3⟩ : ∃ z, z = wr := ⟨_, rfl⟩
      subst hW3
      have x0 : W3.cell? ⟨w.heap.size, 0, none⟩ = some (.slice A0 n0 c0) := (X0.out.on HQ.out).cell 0
      by_cases hlt : i < n0
      · have hilt : (i : Int) < (n0 : Int) := by omega
        have hiz : i < zs.length := by rw [← HN0.out]; exact hlt
        obtain ⟨a, c1, A1, n1, e1, ha, hok, hat⟩ := HT.out.pick i hiz
        injection e1 with e1 e2 e3
        subst e1
        have HAT3 := Lib.hid hat
        have hzz := List.getElem_mem hiz
        obtain ⟨⟨f, hf, hfl⟩, h64⟩ := HOK2.out _ hzz
        have hbl := HBL.out _ hzz
        have HCS : Hid ((Z i).set i (crashZ l i zs[i]) = Z (i + 1)) := Lib.hid (by have := CZS.out i hiz; rwa [HAT.out i hiz] at this)
        obtain ⟨y, hy⟩ : ∃ y, y = zs[i] := ⟨_, rfl⟩
        rw [← hy] at HAT3 hf hfl h64 hbl HCS hok
        obtain ⟨z0, z1, z2, -⟩ := HAT3.out W3 (QX.out.trans HQ.out)
        rw [hf] at z1
        have H64 := Lib.hid h64
        have HOKY := Lib.hid hok
        have b7 := Bx.new W3 45 #[.slice A1 y.b.length n1, .int .i64 (f : Nat), .bool y.full]
        have q7 := (Q.refl W3).alloc (.cells #[.slice A1 y.b.length n1, .int .i64 (f : Nat), .bool y.full] 45)
        obtain ⟨p7, hp7⟩ : ∃ p, p = W3.heap.size := ⟨_, rfl⟩
        obtain ⟨W4, hW4⟩ : ∃ z, z = W3.alloc (.cells #[.slice A1 y.b.length n1, .int .i64 (f : Nat), .bool y.full] 45) := ⟨_, rfl⟩
        rw [← hp7, ← hW4] at b7
        rw [← hW4] at q7
        have h57 : p5 < p7 := by rw [hp7]; exact HB.out.lt
        have HFY := Lib.hid hf
        clear hy hok h64 hat hf e2 e3
        go_upto_region 8 with fail
        rw [← hp7, ← hW4]
        clear hW4 x0 z0 z1 z2 hzz hiz ha
        have b8 := Bx.new W4 45 #[.slice none 0 0, .int .i64 0, .bool false]
        have q8 := (Q.refl W4).alloc (.cells #[.slice none 0 0, .int .i64 0, .bool false] 45)
        obtain ⟨p8, hp8⟩ : ∃ p, p = W4.heap.size := ⟨_, rfl⟩
        obtain ⟨W5, hW5⟩ : ∃ z, z = W4.alloc (.cells #[.slice none 0 0, .int .i64 0, .bool false] 45) := ⟨_, rfl⟩
        rw [← hp8, ← hW5] at b8
        rw [← hW5] at q8
        have h78 : p7 < p8 := by rw [hp8]; exact b7.lt
        go_upto_region 9 with fail
        rw [← hp8, ← hW5]
        clear hW5
        have HP7 := Lib.hid hp7
        have HP8 := Lib.hid hp8
        have B7 := Lib.hid (b7.on q8)
        have B74 := Lib.hid b7
        have B8 := Lib.hid b8
        have Q75 := Lib.hid (q7.trans q8)
        have H57 := Lib.hid h57
        have H78 := Lib.hid h78
        have Q48 := Lib.hid q8
        have Q34 := Lib.hid q7
        clear b7 b8 q7 q8 hp7 hp8 h57 h78
        go_upto_block 2 with fail
        go_cut [9, 10, 11] from 18 to 109 (fun _ _ _ wx => ∃ (A8 : Option Addr) (c8 : Nat), Hid (Bx wx p8 45 #[.slice A8 (crashB l i y).length c8, .int .i64 0, .bool false]) ∧ Hid (OwnT (p8 + 1) wx (.slice A8 (crashB l i y).length c8) (crashB l i y)) ∧ Hid (Q W4 wx))
        case first =>
          have HKL := Lib.hid (keptN_le l i y)
          have HKC := Lib.hid (crashB_end l i y)
          obtain ⟨K, hK⟩ : ∃ n, n = keptN l i y := ⟨_, rfl⟩
          have HKP := Lib.hid hK
          rw [← hK] at HKL HKC
          clear hK
          go_wp2_with fail
          go_loopw [9] (fun I wr => ∃ (k : Nat) (A8 : Option Addr) (c8 : Nat), k ≤ K ∧ I = .int .i64 k ∧ Hid (Bx wr p8 45 #[.slice A8 k c8, .int .i64 0, .bool false]) ∧ Hid (OwnT (p8 + 1) wr (.slice A8 k c8) (y.b.take k)) ∧ Hid (Q W4 wr)) (fun I _ => y.b.length + 1 - (intOf I).toNat)
          case atStart => exact ⟨0, none, 0, Nat.zero_le _, rfl, B8, Lib.hid (OwnT.nil _ _), Q48⟩
          case round =>
            obtain ⟨k, A8, c8, hkl, rfl, HB8, HT8, HQ8⟩ := hrel
            obtain ⟨W6, hW6⟩ : ∃ z, z = wr := ⟨_, rfl⟩
            subst hW6
            obtain ⟨y0, y1⟩ : W6.cell? ⟨p7, 0, none⟩ = some (.slice A1 y.b.length n1) ∧ W6.cell? ⟨p7, 1, none⟩ = some (.int .i64 (f : Nat)) := ⟨(B74.out.on HQ8.out).cell 0, (B74.out.on HQ8.out).cell 1⟩
            obtain ⟨ly, hly⟩ : ∃ n, n = y.b.length := ⟨_, rfl⟩
            have HLY := Lib.hid hly
            rw [← hly] at y0 HKL
            have hly2 : ly ≤ 100000 := by rw [hly]; exact hbl
            rw [← hly]
            clear hly
            by_cases hend : k < ly
            · have hend' : (k : Int) < (ly : Int) := by omega
              have hi6 := HINT.out.on (QX.out.trans (HQ.out.trans (Q34.out.trans HQ8.out)))
              obtain ⟨KA', kc', ek, hko, hkf⟩ := hi6
              injection ek with ek1 ek2 ek3
              subst ek1 ek3
              have HKF := Lib.hid hkf
              have HKO := Lib.hid hko
              have v0 := (X1.out.on (HQ.out.trans (Q34.out.trans HQ8.out))).cell 0
              simp only [List.getElem?_toArray, List.getElem?_cons_zero] at v0
              have HKV : Hid (K = min ly (f + (l.keep[i]?.getD 0).toNat)) := Lib.hid (by rw [HKP.out, HLY.out, keptN, HFY.out]; rfl)
              clear hkf hko ek2
              go_upto_region 12 with fail
              go_cut [10] from 38 to 60 (fun V wx => V = .bool (decide (k < K)) ∧ Hid (Q W6 wx))
              case first =>
                by_cases h1 : k < f
                · have h1' : (k : Int) < (f : Int) := by omega
                  have HD : Hid (decide (k < K) = true) := Lib.hid (decide_eq_true (by have := HKV.out; omega))
                  go_wp2_with fail
                  all_goals (try (go_quiet (fail)))
                  all_goals (try go_wp2_with fail)
                  all_goals go_meet
                  all_goals exact ⟨by rw [HD.out], Lib.hid (by first | exact (Q.refl _).drewN _ | exact (Q.refl _).drew | exact Q.refl _)⟩
                · have h1' : ¬ (k : Int) < (f : Int) := by omega
                  by_cases h2 : i < nk
                  · have h2' : (i : Int) < (nk : Int) := by omega
                    have hkl2 : i < l.keep.length := by rw [← HNK.out]; exact h2
                    obtain ⟨ka, rfl, hka, kcell⟩ := HKF.out i hkl2
                    have hko := HKO.out _ (List.getElem_mem hkl2)
                    have HK2 : Hid (K = min ly (f + l.keep[i].toNat)) := Lib.hid (by rw [HKV.out, List.getElem?_eq_getElem hkl2]; rfl)
                    obtain ⟨kv, hkv⟩ : ∃ v, v = l.keep[i] := ⟨_, rfl⟩
                    rw [← hkv] at kcell hko HK2
                    unfold okI64 at hko
                    clear hkv hkl2
                    by_cases h3 : (k : Int) - (f : Int) < kv
                    · have HD : Hid (decide (k < K) = true) := Lib.hid (decide_eq_true (by have := HK2.out; omega))
                      go_wp2_with fail
                      all_goals (try (go_quiet (fail)))
                      all_goals (try go_wp2_with fail)
                      all_goals go_meet
                      all_goals exact ⟨by rw [HD.out], Lib.hid (by first | exact (Q.refl _).drewN _ | exact (Q.refl _).drew | exact Q.refl _)⟩
                    · have HD : Hid (decide (k < K) = false) := Lib.hid (decide_eq_false (by have := HK2.out; omega))
                      go_wp2_with fail
                      all_goals (try (go_quiet (fail)))
                      all_goals (try go_wp2_with fail)
                      all_goals go_meet
                      all_goals exact ⟨by (rw [HD.out] <;> simp [h3]), Lib.hid (by first | exact (Q.refl _).drewN _ | exact (Q.refl _).drew | exact Q.refl _)⟩
                  · have h2' : ¬ (i : Int) < (nk : Int) := by omega
                    have HD : Hid (decide (k < K) = false) := Lib.hid (decide_eq_false (by
                      have h9 := HKV.out
                      rw [List.getElem?_eq_none (by rw [← HNK.out]; omega)] at h9
                      simp at h9; omega))
                    go_wp2_with fail
                    all_goals (try (go_quiet (fail)))
                    all_goals (try go_wp2_with fail)
                    all_goals go_meet
                    all_goals exact ⟨by rw [HD.out], Lib.hid (by first | exact (Q.refl _).drewN _ | exact (Q.refl _).drew | exact Q.refl _)⟩
              case rest =>
                obtain ⟨rfl, HQ6⟩ := hcut
                obtain ⟨W7, hW7⟩ : ∃ z, z = wc := ⟨_, rfl⟩
                subst hW7
                by_cases hs : k < K
                · have hs' : decide (k < K) = true := decide_eq_true hs
                  rw [hs']
                  clear hs'
                  have hkly : k < y.b.length := by rw [← HLY.out]; exact hend
                  have hb7 := Blks.on (HAT3.out w (Q.refl w)).2.2.2 (QX.out.trans (HQ.out.trans (Q34.out.trans (HQ8.out.trans HQ6.out))))
                  obtain ⟨A1', c1', e', -, -, fb⟩ := hb7
                  injection e' with e1' e2' e3'
                  subst e1' e3'
                  obtain ⟨a1, rfl, hab, tcell⟩ := fb k hkly
                  have HTK0 := List.take_succ_eq_append_getElem hkly
                  obtain ⟨t, ht⟩ : ∃ t, t = y.b[k] := ⟨_, rfl⟩
                  rw [← ht] at tcell HTK0
                  have HTK := Lib.hid HTK0
                  have HTL : Hid ((y.b.take k).length = k) := Lib.hid (by rw [List.length_take]; omega)
                  have B87 := Lib.hid (HB8.out.on HQ6.out)
                  have T87 := Lib.hid (HT8.out.on HQ6.out)
                  have Q74 := Lib.hid (HQ8.out.trans HQ6.out)
                  have y7 : W7.cell? ⟨p7, 0, none⟩ = some (.slice (some a1) ly n1) := by rw [HLY.out]; exact (B74.out.on Q74.out).cell 0
                  have x8 := B87.out.cell 0
                  have x8a := (B87.out.on ((Q.refl W7).alloc (.cells #[.string t] 9))).cell 0
                  simp only [List.getElem?_toArray, List.getElem?_cons_zero] at x8 x8a
                  have hp8w : p8 + 1 ≤ W7.heap.size := B87.out.lt
                  have hp84 : W4.heap.size ≤ p8 + 1 := by rw [HP8.out]; omega
                  clear y0 y1 v0 fb ht HTK0 e2' hab hkly
                  go_upto_region 14 with fail
                  go_cut [] from 62 to 71 (fun wx => ∃ (A4 : Option Addr) (n4 c4 : Nat) (w4 : World), wx = w4.setCell ⟨p8, 0, none⟩ (.slice A4 n4 c4) ∧ Hid (OwnT (p8 + 1) w4 (.slice A4 n4 c4) (y.b.take k ++ [t])) ∧ Hid (Bx w4 p8 45 #[.slice A8 k c8, .int .i64 0, .bool false]) ∧ Hid (Q W4 w4))
                  case first =>
                    go_region_law (refine step_snoc_apt _ rfl (.tmp 63) (.tmp 69) rfl 0 (p8 + 1) W7.heap.size 1 (.slice A8 k c8) (y.b.take k) t (by simp [Act.eval, Act.put]) (by simp [Act.eval, Act.put]) (.inr (T87.out.on (((Q.refl _).alloc _).drew))) (by simp) (by simp; try omega) (by rw [HTL.out]; omega) ?_; intro A4 n4 c4 w4 hown hbel; have b84 := Bx.same (Bx.on B87.out (((Q.refl W7).alloc (.cells #[.string t] 9)).drew)) (hbel.out.block p8 (Nat.lt_succ_self p8)); have x84 := b84.cell 0; have l84 := b84.frozen 0; simp only [List.getElem?_toArray, List.getElem?_cons_zero] at x84; have B84 := Lib.hid b84; have HBB : Hid (Q W4 w4) := Lib.hid (Below.trans (Q74.out.trans (((Q.refl W7).alloc (.cells #[.string t] 9)).drew)) (Below.mono hbel.out hp84)); clear b84 hbel)
                    all_goals (go_wp2_with fail)
                    all_goals go_meet
                    all_goals exact ⟨_, _, _, _, rfl, by assumption, by assumption, by assumption⟩
                  case rest =>
                    obtain ⟨A4, n4, c4, w4, rfl, hown, B84, HBB⟩ := hcut
                    have hn4 : n4 = k + 1 := by
                      obtain ⟨A', c', e⟩ := hown.out.form
                      injection e with e1 e2 e3
                      rw [e2, List.length_append, HTL.out]; rfl
                    subst hn4
                    rw [← HTK.out] at hown
                    have cN := B84.out.set 0 (.slice A4 (k + 1) c4)
                    have tN : OwnT (p8 + 1) (w4.setCell ⟨p8, 0, none⟩ (.slice A4 (k + 1) c4)) (.slice A4 (k + 1) c4) (y.b.take (k + 1)) := ownsRow_set hown.out (by omega)
                    have qN : Q W4 (w4.setCell ⟨p8, 0, none⟩ (.slice A4 (k + 1) c4)) := Q.set HBB.out (by rw [HP8.out]; exact Nat.le_refl _) _
                    obtain ⟨wN, hwN⟩ : ∃ z, z = w4.setCell ⟨p8, 0, none⟩ (.slice A4 (k + 1) c4) := ⟨_, rfl⟩
                    rw [← hwN] at cN tN qN ⊢
                    clear hwN
                    simp only [List.setIfInBounds_toArray, List.set_cons_zero, List.set_cons_succ] at cN
                    have CN := Lib.hid cN
                    have TN := Lib.hid tN
                    have QN := Lib.hid qN
                    clear cN tN qN x8 x8a y7 tcell
                    go_wp2_with fail
                    go_roundw
                    case rel => (first | exact ⟨k + 1, A4, c4, by omega, by go_num, CN, TN, QN⟩ | ((repeat apply Exists.intro); exact ⟨⟨k + 1, A4, c4, by omega, by go_num, CN, TN, QN⟩, rfl⟩))
                    case measure => simp [intOf]; omega
                · have hs' : decide (k < K) = false := decide_eq_false hs
                  have hkK : k = K := by omega
                  by_cases ht : (i : Int) = zone ∧ 0 < cut
                  · obtain ⟨c1, c2⟩ := ht
                    have c1' : ((i : Int) == zone) = true := by simpa using c1
                    have hkly : k < y.b.length := by rw [← HLY.out]; exact hend
                    have HCR : Hid (crashB l i y = y.b.take k ++ [tearB y.b[k] cut]) := Lib.hid (by
                      rw [crashB_tear l i k y (by rw [← HKP.out]; exact hkK.symm) hkly (by rw [← HZO.out]; exact c1) (by rw [← HCU.out]; exact c2), HCU.out])
                    have ht64 := H64.out _ (List.getElem_mem hkly)
                    have hb7 := Blks.on (HAT3.out w (Q.refl w)).2.2.2 (QX.out.trans (HQ.out.trans (Q34.out.trans (HQ8.out.trans HQ6.out))))
                    have HB7 := Lib.hid hb7
                    obtain ⟨t, ht⟩ : ∃ t, t = y.b[k] := ⟨_, rfl⟩
                    have HTY := Lib.hid ht
                    rw [← ht] at HCR ht64
                    have HTL : Hid ((y.b.take k).length = k) := Lib.hid (by rw [List.length_take]; omega)
                    have HLE : Hid ((crashB l i y).length = k + 1) := Lib.hid (by rw [HCR.out, List.length_append, HTL.out]; rfl)
                    obtain ⟨c, hc⟩ : ∃ c : Nat, cut = (c : Nat) := ⟨cut.toNat, by omega⟩
                    have HC := Lib.hid hc
                    clear hc
                    have bz := X1.out.on (HQ.out.trans (Q34.out.trans (HQ8.out.trans HQ6.out)))
                    have v1 := bz.cell 1
                    have v2 := bz.cell 2
                    simp only [List.getElem?_toArray, List.getElem?_cons_zero, List.getElem?_cons_succ] at v1 v2
                    have BZ := Lib.hid bz
                    have B9 := Lib.hid (HB8.out.on HQ6.out)
                    have T9 := Lib.hid (HT8.out.on HQ6.out)
                    have Q99 := Lib.hid (HQ8.out.trans HQ6.out)
                    have x8 := B9.out.cell 0
                    simp only [List.getElem?_toArray, List.getElem?_cons_zero, List.getElem?_cons_succ] at x8
                    have HKK := Lib.hid hkK
                    rw [hs']
                    clear hkK bz v0 ht c1 y0 y1 hb7 hs hs'
                    go_upto_region 15 with fail
                    go_cut [87] from 72 to 87 (fun V wx => V = .bool true ∧ Hid (Q W7 wx))
                    case first =>
                      go_wp2_with fail
                      all_goals (try (go_quiet (fail)))
                      all_goals (try go_wp2_with fail)
                      all_goals go_meet
                      all_goals exact ⟨by first | rfl | simp, Lib.hid (by first | exact (Q.refl _).drewN _ | exact (Q.refl _).drew | exact Q.refl _)⟩
                    case rest =>
                      obtain ⟨rfl, HQ7⟩ := hcut
                      obtain ⟨W8, hW8⟩ : ∃ z, z = wc := ⟨_, rfl⟩
                      subst hW8
                      have hb8 := Blks.on HB7.out HQ7.out
                      obtain ⟨A1', c1x, e', -, -, fb⟩ := hb8
                      injection e' with e1' e2' e3'
                      subst e1' e3'
                      obtain ⟨a1, rfl, hab, tcell⟩ := fb k hkly
                      rw [← HTY.out] at tcell
                      have y8 : W8.cell? ⟨p7, 0, none⟩ = some (.slice (some a1) ly n1) := by rw [HLY.out]; exact (B74.out.on (Q99.out.trans HQ7.out)).cell 0
                      obtain ⟨W9, cap, hconv, hcap, q89, br⟩ := conv_brow t W8
                      rw [ht64] at hconv hcap
                      obtain ⟨g, hg⟩ : ∃ g, g = W8.heap.size := ⟨_, rfl⟩
                      rw [← hg] at hconv br
                      have v9 := (BZ.out.on (HQ7.out.trans q89)).cell 2
                      simp only [List.getElem?_toArray, List.getElem?_cons_zero, List.getElem?_cons_succ] at v9
                      have hpg : p8 + 1 ≤ g := by rw [hg]; exact (B9.out.on HQ7.out).lt
                      have HG := Lib.hid hg
                      have Q89 := Lib.hid q89
                      have BR := Lib.hid br
                      have HT64 := Lib.hid ht64
                      have hp84 : W4.heap.size ≤ p8 + 1 := by rw [HP8.out]; omega
                      clear x8 v1 v2 fb e2' hab q89 br hg ht64
                      go_wp2_with fail
                      go_loopw [12] (fun I wr => ∃ j : Nat, c ≤ j ∧ (j ≤ 64 ∨ j = c) ∧ I = .int .i64 j ∧ Hid (BRow wr g (zl t c j)) ∧ Hid (Q W8 wr)) (fun I _ => 64 - (intOf I).toNat)
                      case atStart => exact ⟨c, Nat.le_refl _, .inr rfl, by rw [HC.out], Lib.hid (by rw [zl_zero]; exact BR.out), Q89⟩
                      case round =>
                        obtain ⟨j, hcj, hj, rfl, HR, HQ10⟩ := hrel
                        obtain ⟨W10, hW10⟩ : ∃ z, z = wr := ⟨_, rfl⟩
                        subst hW10
                        clear tcell y8 v9 hconv
                        by_cases hlt : j < 64
                        · have hlt' : (j : Int) < 64 := by omega
                          have hjl : j < (zl t c j).length := by rw [zl_len, HT64.out]; exact hlt
                          obtain ⟨z0, z1⟩ := HR.out.2 j hjl
                          have hS := HR.out.set j 0 hjl
                          rw [zl_set t c j hcj] at hS
                          change BRow (W10.setCell ⟨g, j, none⟩ (.int .u8 0)) g _ at hS
                          have HS := Lib.hid hS
                          have HSQ := Lib.hid (show Q W8 (W10.setCell ⟨g, j, none⟩ (.int .u8 0)) from Q.set HQ10.out (by rw [HG.out]; exact Nat.le_refl _) _)
                          obtain ⟨oc, hoc⟩ : ∃ o, o = ((zl t c j)[j]).toNat := ⟨_, rfl⟩
                          rw [← hoc] at z0
                          clear hS hoc hjl
                          go_wp2_with fail
                          go_roundw
                          case rel => (first | exact ⟨j + 1, by omega, by omega, by go_num, HS, HSQ⟩ | ((repeat apply Exists.intro); exact ⟨⟨j + 1, by omega, by omega, by go_num, HS, HSQ⟩, rfl⟩))
                          case measure => simp [intOf]; omega
                        · have hlt' : ¬ (j : Int) < 64 := by omega
                          have hcv := HR.out.conv (n := 64) (cap := cap) (by rw [zl_len, HT64.out])
                          rw [zl_end t c j cut HT64.out HC.out (by omega)] at hcv
                          obtain ⟨tt, htt⟩ : ∃ s, s = tearB t cut := ⟨_, rfl⟩
                          rw [← htt] at hcv HCR
                          have B10 := Lib.hid (B9.out.on (HQ7.out.trans HQ10.out))
                          have T10 := Lib.hid (T9.out.on (HQ7.out.trans HQ10.out))
                          have Q10 := Lib.hid (Q99.out.trans (HQ7.out.trans HQ10.out))
                          have x10 := B10.out.cell 0
                          simp only [List.getElem?_toArray, List.getElem?_cons_zero, List.getElem?_cons_succ] at x10
                          have hp10 : p8 + 1 ≤ W10.heap.size := B10.out.lt
                          have hcvd := (HR.out.on (Q.refl _).drew).conv (n := 64) (cap := cap) (by rw [zl_len, HT64.out])
                          rw [zl_end t c j cut HT64.out HC.out (by omega), ← htt] at hcvd
                          have x10a := (B10.out.on ((Q.refl W10).alloc (.cells #[.string tt] 9))).cell 0
                          simp only [List.getElem?_toArray, List.getElem?_cons_zero] at x10a
                          clear htt
                          go_upto_region 21 with fail
                          go_cut [] from 103 to 109 (fun wx => ∃ (A4 : Option Addr) (n4 c4 : Nat) (w4 : World), wx = w4.setCell ⟨p8, 0, none⟩ (.slice A4 n4 c4) ∧ Hid (OwnT (p8 + 1) w4 (.slice A4 n4 c4) (y.b.take k ++ [tt])) ∧ Hid (Bx w4 p8 45 #[.slice A8 k c8, .int .i64 0, .bool false]) ∧ Hid (Q W4 w4))
                          case first =>
                            go_wp2_with (refine wpList_snoc_apt rfl (.tmp 104) (.tmp 107) rfl 0 (p8 + 1) W10.heap.size 1 (.slice A8 k c8) (y.b.take k) tt (by simp [Act.eval, Act.put]) (by simp [Act.eval, Act.put]) (.inr (T10.out.on ((Q.refl _).alloc _))) (by simp) (by simp; try omega) (by rw [HTL.out]; omega) ?_; intro A4 n4 c4 w4 hown hbel; have b84 := Bx.same (Bx.on B10.out ((Q.refl W10).alloc (.cells #[.string tt] 9))) (hbel.out.block p8 (Nat.lt_succ_self p8)); have x84 := b84.cell 0; have l84 := b84.frozen 0; simp only [List.getElem?_toArray, List.getElem?_cons_zero] at x84; have B84 := Lib.hid b84; have HBB : Hid (Q W4 w4) := Lib.hid (Below.trans (Q10.out.trans ((Q.refl W10).alloc (.cells #[.string tt] 9))) (Below.mono hbel.out hp84)); clear b84 hbel; refine Hid.out ?_)
                            refine Lib.hid ?_
                            all_goals (go_wp2_with fail)
                            all_goals go_meet
                            all_goals exact ⟨_, _, _, _, rfl, by assumption, by assumption, by assumption⟩
                          case rest =>
                            obtain ⟨A4, n4, c4, w4, rfl, hown, B84, HBB⟩ := hcut
                            have hn4 : n4 = k + 1 := by
                              obtain ⟨A', c', e⟩ := hown.out.form
                              injection e with e1 e2 e3
                              rw [e2, List.length_append, HTL.out]; rfl
                            subst hn4
                            rw [← HCR.out] at hown
                            have CN := Lib.hid (B84.out.set 0 (.slice A4 (k + 1) c4))
                            have TN : Hid (OwnT (p8 + 1) (w4.setCell ⟨p8, 0, none⟩ (.slice A4 (k + 1) c4)) (.slice A4 (k + 1) c4) (crashB l i y)) := Lib.hid (ownsRow_set hown.out (by omega))
                            have QN : Hid (Q W4 (w4.setCell ⟨p8, 0, none⟩ (.slice A4 (k + 1) c4))) := Lib.hid (Q.set HBB.out (by rw [HP8.out]; exact Nat.le_refl _) _)
                            clear hcv hcvd x10 x10a
                            go_wp2_with fail
                            go_meet
                            exact ⟨A4, c4, by rw [HLE.out]; simpa using CN, by rw [HLE.out]; exact TN, QN⟩
                  · have HE : Hid (crashB l i y = y.b.take k) := Lib.hid (by
                      unfold crashB
                      rw [if_neg (by rw [← HZO.out, ← HCU.out]; exact ht), List.append_nil, hkK, HKP.out])
                    have HLE : Hid ((crashB l i y).length = k) := Lib.hid (by rw [HE.out, List.length_take, ← HLY.out]; omega)
                    have bz := X1.out.on (HQ.out.trans (Q34.out.trans (HQ8.out.trans HQ6.out)))
                    have v1 := bz.cell 1
                    have v2 := bz.cell 2
                    simp only [List.getElem?_toArray, List.getElem?_cons_zero, List.getElem?_cons_succ] at v1 v2
                    have B9 := Lib.hid (HB8.out.on HQ6.out)
                    have T9 := Lib.hid (HT8.out.on HQ6.out)
                    have Q99 := Lib.hid (HQ8.out.trans HQ6.out)
                    have x8 := B9.out.cell 0
                    clear hkK bz v0
                    by_cases c1 : (i : Int) = zone
                    · have c2 : ¬ 0 < cut := fun h => ht ⟨c1, h⟩
                      have c1' : ((i : Int) == zone) = true := by simpa using c1
                      clear ht c1
                      go_wp2_with fail
                      all_goals (try (go_quiet (fail)))
                      all_goals (try go_wp2_with fail)
                      all_goals go_meet
                      all_goals exact ⟨A8, c8, by rw [HLE.out]; exact Lib.hid (B9.out.on (by first | exact (Q.refl _).drewN _ | exact (Q.refl _).drew | exact Q.refl _)), by rw [HLE.out, HE.out]; exact Lib.hid (T9.out.on (by first | exact (Q.refl _).drewN _ | exact (Q.refl _).drew | exact Q.refl _)), Lib.hid (Q99.out.trans (by first | exact (Q.refl _).drewN _ | exact (Q.refl _).drew | exact Q.refl _))⟩
                    · have c1' : ((i : Int) == zone) = false := by simpa using c1
                      clear ht c1
                      go_wp2_with fail
                      all_goals (try (go_quiet (fail)))
                      all_goals (try go_wp2_with fail)
                      all_goals go_meet
                      all_goals exact ⟨A8, c8, by rw [HLE.out]; exact Lib.hid (B9.out.on (by first | exact (Q.refl _).drewN _ | exact (Q.refl _).drew | exact Q.refl _)), by rw [HLE.out, HE.out]; exact Lib.hid (T9.out.on (by first | exact (Q.refl _).drewN _ | exact (Q.refl _).drew | exact Q.refl _)), Lib.hid (Q99.out.trans (by first | exact (Q.refl _).drewN _ | exact (Q.refl _).drew | exact Q.refl _))⟩
            · have hend' : ¬ (k : Int) < (ly : Int) := by omega
              have hkK : k = K := by have := HKL.out; omega
              have HE : Hid (crashB l i y = y.b.take k) := Lib.hid (by rw [hkK]; exact HKC.out (by rw [← HLY.out]; have := HKL.out; omega))
              have HLE : Hid ((crashB l i y).length = k) := Lib.hid (by rw [HE.out, List.length_take, ← HLY.out]; have := HKL.out; omega)
              clear hkK
              go_wp2_with fail
              go_meet
              exact ⟨A8, c8, by rw [HLE.out]; exact HB8, by rw [HLE.out, HE.out]; exact HT8, HQ8⟩
        case rest =>
          obtain ⟨A8, c8, HB8, HT8, HQ8⟩ := hcut
          obtain ⟨wb, hwb⟩ : ∃ z, z = wc := ⟨_, rfl⟩
          subst hwb
          have HCL : Hid ((crashB l i y).length ≤ 100000) := Lib.hid (Nat.le_trans (crashB_len l i y).2.1 hbl)
          have HCZ : Hid (crashZ l i y = ⟨crashB l i y, ((crashB l i y).length : Nat), decide (0 < (crashB l i y).length)⟩) := Lib.hid rfl
          rw [HCZ.out] at HCS
          obtain ⟨L, hL⟩ : ∃ b, b = crashB l i y := ⟨_, rfl⟩
          rw [← hL] at HB8 HT8 HCL HCS
          clear HCZ hL
          obtain ⟨m, hm⟩ : ∃ n, n = L.length := ⟨_, rfl⟩
          have HM := Lib.hid hm
          rw [← hm] at HB8 HCL HCS
          have hml : m ≤ 100000 := HCL.out
          obtain ⟨bb, hbb⟩ : ∃ b, b = decide (0 < m) := ⟨_, rfl⟩
          rw [← hbb] at HCS
          have hb1 : decide (0 < m) = bb := hbb.symm
          have hb2 : decide ((0 : Int) < (m : Int)) = bb := by rw [hbb]; simp only [decide_eq_decide]; omega
          obtain ⟨A8', c8', ev⟩ := HT8.out.form
          rw [← hm] at ev
          injection ev with ev1 ev2 ev3
          clear hm hbb ev1 ev2 ev3
          have hge3 : W3.heap.size ≤ p8 := by have := H78.out; have := HP7.out; omega
          have hne5 : p5 ≠ p8 := by have := H78.out; have := H57.out; omega
          have HQ3 := Lib.hid (Q34.out.trans HQ8.out)
          have HB5 := Lib.hid (HB.out.on HQ3.out)
          have x_ := HB8.out.cell 0
          have l_ := HB8.out.frozen 1
          have k_ := HB8.out.cell 1
          go_upto_region 23 with fail
          clear x_ l_ k_
          have c_ := HB8.out.set 1 (.int .i64 (m : Nat))
          have d_ := HB5.out.other (B2 := p8) hne5 1 (.int .i64 (m : Nat))
          have q_ : Q W3 (wb.setCell ⟨p8, 1, none⟩ (.int .i64 (m : Nat))) := Q.set HQ3.out hge3 _
          have t_ : OwnT (p8 + 1) (wb.setCell ⟨p8, 1, none⟩ (.int .i64 (m : Nat))) (.slice A8 m c8) L := ownsRow_set (by rw [HM.out]; exact HT8.out) (by omega)
          obtain ⟨w1, hw1⟩ : ∃ z, z = wb.setCell ⟨p8, 1, none⟩ (.int .i64 (m : Nat)) := ⟨_, rfl⟩
          rw [← hw1] at c_ d_ q_ t_ ⊢
          clear hw1
          simp only [List.setIfInBounds_toArray, List.set_cons_zero, List.set_cons_succ] at c_
          have C1 := Lib.hid c_
          have D1 := Lib.hid d_
          have Q1 := Lib.hid q_
          have T1 := Lib.hid t_
          clear c_ d_ q_ t_
          have x_ := C1.out.cell 0
          have l_ := C1.out.frozen 2
          have k_ := C1.out.cell 2
          go_upto_region 24 with fail
          clear x_ l_ k_
          have c_ := C1.out.set 2 (.bool bb)
          have d_ := D1.out.other (B2 := p8) hne5 2 (.bool bb)
          have q_ : Q W3 (w1.setCell ⟨p8, 2, none⟩ (.bool bb)) := Q.set Q1.out hge3 _
          have t_ : OwnT (p8 + 1) (w1.setCell ⟨p8, 2, none⟩ (.bool bb)) (.slice A8 m c8) L := ownsRow_set T1.out (by omega)
          obtain ⟨w2, hw2⟩ : ∃ z, z = w1.setCell ⟨p8, 2, none⟩ (.bool bb) := ⟨_, rfl⟩
          rw [← hw2] at c_ d_ q_ t_ ⊢
          clear hw2
          simp only [List.setIfInBounds_toArray, List.set_cons_zero, List.set_cons_succ] at c_
          have D2 := Lib.hid d_
          have Q2 := Lib.hid q_
          have CC := Lib.hid (CW.out w2 i (.slice A5 n0 c5) ⟨L, (m : Nat), bb⟩ (.slice A8 m c8) hlt (HZ.out.on q_) ⟨by show L.length ≤ _; rw [← HM.out]; unfold maxLen; omega, by show (-9223372036854775808 : Int) ≤ (m : Int); omega, by show (m : Int) ≤ 9223372036854775807; omega⟩ t_.read)
          dsimp only at CC
          obtain ⟨x0, x1, x2, x3, x4, x5⟩ : w2.cell? ⟨p5, 0, none⟩ = some (.slice A5 n0 c5) ∧ w2.cell? ⟨p5, 1, none⟩ = some (.int .i64 size) ∧ w2.cell? ⟨p5, 2, none⟩ = some (.int .i64 mo) ∧ w2.cell? ⟨p5, 3, none⟩ = some (.int .i64 fuel) ∧ w2.cell? ⟨p5, 4, none⟩ = some (.bool off) ∧ w2.cell? ⟨p5, 5, none⟩ = some (.int .i64 bad) := ⟨D2.out.cell 0, D2.out.cell 1, D2.out.cell 2, D2.out.cell 3, D2.out.cell 4, D2.out.cell 5⟩
          obtain ⟨y0, y1, y2⟩ : w2.cell? ⟨p8, 0, none⟩ = some (.slice A8 m c8) ∧ w2.cell? ⟨p8, 1, none⟩ = some (.int .i64 (m : Nat)) ∧ w2.cell? ⟨p8, 2, none⟩ = some (.bool bb) := ⟨c_.cell 0, c_.cell 1, c_.cell 2⟩
          clear c_ d_ q_ t_ hb1 hb2
          go_wp2_with fail
          refine (CC.out).mono ?_
          rintro e w6 ⟨v6, rfl, z6, d6⟩
          obtain ⟨A6, c6, e6⟩ := z6.form
          rw [List.length_set, CZL.out, ← HN0.out] at e6
          subst e6
          rw [HCS.out] at z6
          rw [dvV]
          dsimp only
          clear x0 x1 x2 x3 x4 x5 y0 y1 y2
          have b6 := D2.out.on d6
          have HZ6 := Lib.hid z6
          have q6 := HQ.out.trans (Q2.out.trans d6)
          have hge5 : w5.heap.size ≤ p5 := by rw [HP5.out]; exact Nat.le_refl _
          obtain ⟨g0, g1, g2, g3, g4, g5⟩ : w6.cell? ⟨p5, 0, none⟩ = some (.slice A5 n0 c5) ∧ w6.cell? ⟨p5, 1, none⟩ = some (.int .i64 size) ∧ w6.cell? ⟨p5, 2, none⟩ = some (.int .i64 mo) ∧ w6.cell? ⟨p5, 3, none⟩ = some (.int .i64 fuel) ∧ w6.cell? ⟨p5, 4, none⟩ = some (.bool off) ∧ w6.cell? ⟨p5, 5, none⟩ = some (.int .i64 bad) := ⟨b6.cell 0, b6.cell 1, b6.cell 2, b6.cell 3, b6.cell 4, b6.cell 5⟩
          have l0 := b6.frozen 0
          have l1 := b6.frozen 1
          have l2 := b6.frozen 2
          have l3 := b6.frozen 3
          have l4 := b6.frozen 4
          have l5 := b6.frozen 5
          have c9 := ((((((b6.set 0 (.slice A6 n0 c6)).set 1 (.int .i64 size)).set 2 (.int .i64 mo)).set 3 (.int .i64 fuel)).set 4 (.bool off)).set 5 (.int .i64 bad))
          have q9 : Q w5 ((((((w6.setCell ⟨p5, 0, none⟩ (.slice A6 n0 c6)).setCell ⟨p5, 1, none⟩ (.int .i64 size)).setCell ⟨p5, 2, none⟩ (.int .i64 mo)).setCell ⟨p5, 3, none⟩ (.int .i64 fuel)).setCell ⟨p5, 4, none⟩ (.bool off)).setCell ⟨p5, 5, none⟩ (.int .i64 bad)) := (Q.set (Q.set (Q.set (Q.set (Q.set (Q.set q6 hge5 _) hge5 _) hge5 _) hge5 _) hge5 _) hge5 _)
          have z9 : Zns ((((((w6.setCell ⟨p5, 0, none⟩ (.slice A6 n0 c6)).setCell ⟨p5, 1, none⟩ (.int .i64 size)).setCell ⟨p5, 2, none⟩ (.int .i64 mo)).setCell ⟨p5, 3, none⟩ (.int .i64 fuel)).setCell ⟨p5, 4, none⟩ (.bool off)).setCell ⟨p5, 5, none⟩ (.int .i64 bad)) (((((((w6.setCell ⟨p5, 0, none⟩ (.slice A6 n0 c6)).setCell ⟨p5, 1, none⟩ (.int .i64 size)).setCell ⟨p5, 2, none⟩ (.int .i64 mo)).setCell ⟨p5, 3, none⟩ (.int .i64 fuel)).setCell ⟨p5, 4, none⟩ (.bool off)).setCell ⟨p5, 5, none⟩ (.int .i64 bad))).heap.size (.slice A6 n0 c6) (Z (i + 1)) := Zns.off HZ6.out b6 (fun j hne => (heap_set _ _ _ _ hne).trans ( (heap_set _ _ _ _ hne).trans ( (heap_set _ _ _ _ hne).trans ( (heap_set _ _ _ _ hne).trans ( (heap_set _ _ _ _ hne).trans ( heap_set _ _ _ _ hne)))))) (by simp)
          obtain ⟨w9, hw9⟩ : ∃ z, z = ((((((w6.setCell ⟨p5, 0, none⟩ (.slice A6 n0 c6)).setCell ⟨p5, 1, none⟩ (.int .i64 size)).setCell ⟨p5, 2, none⟩ (.int .i64 mo)).setCell ⟨p5, 3, none⟩ (.int .i64 fuel)).setCell ⟨p5, 4, none⟩ (.bool off)).setCell ⟨p5, 5, none⟩ (.int .i64 bad)) := ⟨_, rfl⟩
          rw [← hw9] at c9 q9 z9
          simp only [List.setIfInBounds_toArray, List.set_cons_zero, List.set_cons_succ] at c9
          have C9 := Lib.hid c9
          have Q9 := Lib.hid q9
          have Z9 := Lib.hid z9
          clear c9 q9 z9 z6 b6 q6 d6
          go_wp2_with fail
          rw [← hw9]
          clear hw9
          go_roundw
          case rel => (first | exact ⟨i + 1, A6, c6, by omega, by go_num, C9, Z9, Q9⟩ | ((repeat apply Exists.intro); exact ⟨⟨i + 1, A6, c6, by omega, by go_num, C9, Z9, Q9⟩, rfl⟩))
          case measure => simp [intOf]; omega
      · obtain rfl : i = n0 := by omega
        have hilt : ¬ (i : Int) < (i : Int) := by omega
        have hge : w.heap.size ≤ p5 := by have := HSX.out; omega
        have hne : w.heap.size + 1 + 1 ≠ p5 := by have := HSX.out; omega
        have BR := Lib.hid (X2.out.on HQ.out)
        have QR := Lib.hid (QX.out.trans HQ.out)
        have x_ := HB.out.cell 4
        have l_ := HB.out.frozen 4
        go_upto_region 26 with fail
        clear x_ l_
        have c_ := HB.out.set 4 (.bool false)
        have q_ : Q w (W3.setCell ⟨p5, 4, none⟩ (.bool false)) := Q.set QR.out hge _
        have s_ : W3.heap.size ≤ (W3.setCell ⟨p5, 4, none⟩ (.bool false)).heap.size := by simp
        have k_ : ∀ j, j ≠ p5 → (W3.setCell ⟨p5, 4, none⟩ (.bool false)).heap[j]? = W3.heap[j]? := fun j hne => heap_set _ _ _ _ hne
        obtain ⟨w7, hw7⟩ : ∃ z, z = W3.setCell ⟨p5, 4, none⟩ (.bool false) := ⟨_, rfl⟩
        rw [← hw7] at c_ q_ k_ s_ ⊢
        clear hw7
        simp only [List.setIfInBounds_toArray, List.set_cons_zero, List.set_cons_succ] at c_
        have Cw7 : Hid (Bx w7 (p5) 24 #[.slice A5 i c5, .int .i64 size, .int .i64 mo, .int .i64 fuel, .bool false, .int .i64 bad]) := Lib.hid c_
        have Qw7 := Lib.hid q_
        have Kw7 := Lib.hid k_
        have Sw7 := Lib.hid s_
        clear c_ q_ k_ s_
        have x_ := Cw7.out.cell 3
        have l_ := Cw7.out.frozen 3
        go_upto_region 27 with fail
        clear x_ l_
        have c_ := Cw7.out.set 3 (.int .i64 (-1))
        have q_ : Q w (w7.setCell ⟨p5, 3, none⟩ (.int .i64 (-1))) := Q.set Qw7.out hge _
        have s_ : w7.heap.size ≤ (w7.setCell ⟨p5, 3, none⟩ (.int .i64 (-1))).heap.size := by simp
        have k_ : ∀ j, j ≠ p5 → (w7.setCell ⟨p5, 3, none⟩ (.int .i64 (-1))).heap[j]? = w7.heap[j]? := fun j hne => heap_set _ _ _ _ hne
        obtain ⟨w8, hw8⟩ : ∃ z, z = w7.setCell ⟨p5, 3, none⟩ (.int .i64 (-1)) := ⟨_, rfl⟩
        rw [← hw8] at c_ q_ k_ s_ ⊢
        clear hw8
        simp only [List.setIfInBounds_toArray, List.set_cons_zero, List.set_cons_succ] at c_
        have Cw8 : Hid (Bx w8 (p5) 24 #[.slice A5 i c5, .int .i64 size, .int .i64 mo, .int .i64 (-1), .bool false, .int .i64 bad]) := Lib.hid c_
        have Qw8 := Lib.hid q_
        have Kw8 := Lib.hid k_
        have Sw8 := Lib.hid s_
        clear c_ q_ k_ s_
        have BR8 := Lib.hid ((BR.out.same (Kw7.out _ hne)).same (Kw8.out _ hne))
        have HZ7 := Lib.hid (Zns.off HZ.out HB.out Kw7.out Sw7.out)
        have HZ8 := Lib.hid (Zns.off HZ7.out Cw7.out Kw8.out Sw8.out)
        have HP8 := Lib.hid (Cw8.out)
        obtain ⟨x0, x1, x2, x3, x4, x5⟩ : w8.cell? ⟨p5, 0, none⟩ = some (.slice A5 i c5) ∧ w8.cell? ⟨p5, 1, none⟩ = some (.int .i64 size) ∧ w8.cell? ⟨p5, 2, none⟩ = some (.int .i64 mo) ∧ w8.cell? ⟨p5, 3, none⟩ = some (.int .i64 (-1)) ∧ w8.cell? ⟨p5, 4, none⟩ = some (.bool false) ∧ w8.cell? ⟨p5, 5, none⟩ = some (.int .i64 bad) := ⟨Cw8.out.cell 0, Cw8.out.cell 1, Cw8.out.cell 2, Cw8.out.cell 3, Cw8.out.cell 4, Cw8.out.cell 5⟩
        obtain ⟨g0, g1, g2, g3, g4, g5⟩ : w8.cell? ⟨w.heap.size + 1 + 1, 0, none⟩ = some (.slice none 0 0) ∧ w8.cell? ⟨w.heap.size + 1 + 1, 1, none⟩ = some (.int .i64 0) ∧ w8.cell? ⟨w.heap.size + 1 + 1, 2, none⟩ = some (.int .i64 0) ∧ w8.cell? ⟨w.heap.size + 1 + 1, 3, none⟩ = some (.int .i64 0) ∧ w8.cell? ⟨w.heap.size + 1 + 1, 4, none⟩ = some (.bool false) ∧ w8.cell? ⟨w.heap.size + 1 + 1, 5, none⟩ = some (.int .i64 0) := ⟨BR8.out.cell 0, BR8.out.cell 1, BR8.out.cell 2, BR8.out.cell 3, BR8.out.cell 4, BR8.out.cell 5⟩
        have l0 := BR8.out.frozen 0
        have l1 := BR8.out.frozen 1
        have l2 := BR8.out.frozen 2
        have l3 := BR8.out.frozen 3
        have l4 := BR8.out.frozen 4
        have l5 := BR8.out.frozen 5
        have c9 := ((((((BR8.out.set 0 (.slice A5 i c5)).set 1 (.int .i64 size)).set 2 (.int .i64 mo)).set 3 (.int .i64 (-1))).set 4 (.bool false)).set 5 (.int .i64 bad))
        have q9 : Q w ((((((w8.setCell ⟨w.heap.size + 1 + 1, 0, none⟩ (.slice A5 i c5)).setCell ⟨w.heap.size + 1 + 1, 1, none⟩ (.int .i64 size)).setCell ⟨w.heap.size + 1 + 1, 2, none⟩ (.int .i64 mo)).setCell ⟨w.heap.size + 1 + 1, 3, none⟩ (.int .i64 (-1))).setCell ⟨w.heap.size + 1 + 1, 4, none⟩ (.bool false)).setCell ⟨w.heap.size + 1 + 1, 5, none⟩ (.int .i64 bad)) := (Q.set (Q.set (Q.set (Q.set (Q.set (Q.set Qw8.out (by omega) _) (by omega) _) (by omega) _) (by omega) _) (by omega) _) (by omega) _)
        have k9 : ∀ j, j ≠ w.heap.size + 1 + 1 → ((((((w8.setCell ⟨w.heap.size + 1 + 1, 0, none⟩ (.slice A5 i c5)).setCell ⟨w.heap.size + 1 + 1, 1, none⟩ (.int .i64 size)).setCell ⟨w.heap.size + 1 + 1, 2, none⟩ (.int .i64 mo)).setCell ⟨w.heap.size + 1 + 1, 3, none⟩ (.int .i64 (-1))).setCell ⟨w.heap.size + 1 + 1, 4, none⟩ (.bool false)).setCell ⟨w.heap.size + 1 + 1, 5, none⟩ (.int .i64 bad)).heap[j]? = w8.heap[j]? := fun j hne => (heap_set _ _ _ _ hne).trans ( (heap_set _ _ _ _ hne).trans ( (heap_set _ _ _ _ hne).trans ( (heap_set _ _ _ _ hne).trans ( (heap_set _ _ _ _ hne).trans ( heap_set _ _ _ _ hne)))))
        have s9 : w8.heap.size ≤ (((((((w8.setCell ⟨w.heap.size + 1 + 1, 0, none⟩ (.slice A5 i c5)).setCell ⟨w.heap.size + 1 + 1, 1, none⟩ (.int .i64 size)).setCell ⟨w.heap.size + 1 + 1, 2, none⟩ (.int .i64 mo)).setCell ⟨w.heap.size + 1 + 1, 3, none⟩ (.int .i64 (-1))).setCell ⟨w.heap.size + 1 + 1, 4, none⟩ (.bool false)).setCell ⟨w.heap.size + 1 + 1, 5, none⟩ (.int .i64 bad))).heap.size := by simp
        obtain ⟨w9, hw9⟩ : ∃ z, z = ((((((w8.setCell ⟨w.heap.size + 1 + 1, 0, none⟩ (.slice A5 i c5)).setCell ⟨w.heap.size + 1 + 1, 1, none⟩ (.int .i64 size)).setCell ⟨w.heap.size + 1 + 1, 2, none⟩ (.int .i64 mo)).setCell ⟨w.heap.size + 1 + 1, 3, none⟩ (.int .i64 (-1))).setCell ⟨w.heap.size + 1 + 1, 4, none⟩ (.bool false)).setCell ⟨w.heap.size + 1 + 1, 5, none⟩ (.int .i64 bad)) := ⟨_, rfl⟩
        rw [← hw9] at c9 q9 k9 s9
        have KSZ := Lib.hid s9
        clear s9
        simp only [List.setIfInBounds_toArray, List.set_cons_zero, List.set_cons_succ] at c9
        have C9 := Lib.hid c9
        have Q9 := Lib.hid q9
        have K9 := Lib.hid k9
        clear c9 q9 k9
        go_wp2_with fail
        rw [← hw9]
        clear hw9
        obtain ⟨k0, k1, k2, k3, k4, k5⟩ : w9.cell? ⟨w.heap.size + 1 + 1, 0, none⟩ = some (.slice A5 i c5) ∧ w9.cell? ⟨w.heap.size + 1 + 1, 1, none⟩ = some (.int .i64 size) ∧ w9.cell? ⟨w.heap.size + 1 + 1, 2, none⟩ = some (.int .i64 mo) ∧ w9.cell? ⟨w.heap.size + 1 + 1, 3, none⟩ = some (.int .i64 (-1)) ∧ w9.cell? ⟨w.heap.size + 1 + 1, 4, none⟩ = some (.bool false) ∧ w9.cell? ⟨w.heap.size + 1 + 1, 5, none⟩ = some (.int .i64 bad) := ⟨C9.out.cell 0, C9.out.cell 1, C9.out.cell 2, C9.out.cell 3, C9.out.cell 4, C9.out.cell 5⟩
        (try simp only [Exit.inBlock, Exit.then])
        refine bodyPost_ret (v := .agg #[.slice A5 i c5, .int .i64 size, .int .i64 mo, .int .i64 (-1), .bool false, .int .i64 bad]) ?_ rfl ?_
        · simp [results, Try.results14, go_sem] at k0 k1 k2 k3 k4 k5 ⊢
          simp [k0, k1, k2, k3, k4, k5]
        · exact HPO.out _ _ ⟨.slice A5 i c5, by rw [HV3.out]; rfl, by rw [HV3.out]; exact Zns.off HZ8.out BR8.out K9.out KSZ.out, Q9.out⟩
end Go.Proofs.Yteoondmakdghhaa

