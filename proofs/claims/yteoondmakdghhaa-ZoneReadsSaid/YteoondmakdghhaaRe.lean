/-
  Contract of the program's command, for any question that is asked and any step that is done. Contracts of the functions that the program's Append, Finish and Reset hand to command.
-/
import Derived.Test.YteoondmakdghhaaRd
import Derived.Shelf.Abstract
import Derived.ArgAppend
import Derived.Deep.RegionLaw
namespace Go.Proofs.Yteoondmakdghhaa
set_option maxRecDepth 100000
open Go.ChangeShapes Go.WideShapes Go.ChangeAt Go.RowKit
set_option linter.unusedVariables false
set_option linter.unusedSimpArgs false
set_option maxRecDepth 100000
/-- Steps done one behind the other, each burning ahead of it. -/
def runD (k : Nat) (F : Nat → Zn → Zn) : Nat → Nat → Dv → Dv × Nat
  | _, 0, d => (d, 0)
  | i, n + 1, d => if (burnD d).2 = true then runD k F (i + 1) n (setZn (burnD d).1 k (F i (atZn (burnD d).1 k))) else ((burnD d).1, 10)
def cmdD (d : Dv) (z : Int) (p : Zn → Bool) (steps : Nat) (F : Nat → Zn → Zn) : Dv × Nat :=
  if mayD d = false then (noDv, 1) else if hasZ d z then (if p (atZn d z.toNat) = true then runD z.toNat F 0 steps d else (refD d, 8)) else (refD d, 12)
theorem burn_okN {d : Dv} (h : okN d) (hf : -1 ≤ d.fuel) : okN (burnD d).1 ∧ -1 ≤ (burnD d).1.fuel := by
  obtain ⟨h1, h2⟩ := h
  unfold okI64 at h1 h2
  refine ⟨⟨?_, by rw [burn_bad]; exact h2⟩, ?_⟩
  · unfold okI64 burnD; split <;> simp only <;> first | omega | (split <;> omega)
  · unfold burnD; split <;> simp only <;> first | omega | (split <;> omega)
/-- A zone's blocks while steps are done: a row that was there ahead of them, or one that they made. -/
def AptT (R s : Nat) (w : World) (v : Value) (l : List ByteArray) : Prop := (∃ g, TB w v l g ∧ R < g ∧ g < s) ∨ OwnT s w v l
theorem AptT.blks {R s : Nat} {w : World} {v : Value} {l : List ByteArray} (h : AptT R s w v l) : Blks w w.heap.size v l := by
  rcases h with ⟨g, t, -, -⟩ | h
  · exact t.blks.more (Bx.lt t.2)
  · exact h.read
theorem AptT.on {R s : Nat} {w w' : World} {v : Value} {l : List ByteArray} (h : AptT R s w v l) (q : Q w w') : AptT R s w' v l := by
  rcases h with ⟨g, t, r, r2⟩ | h
  · exact .inl ⟨g, t.on q, r, r2⟩
  · exact .inr (h.on q)
theorem OwnT.kept2 {base : Nat} {w w' : World} {v : Value} {l : List ByteArray} (h : OwnT base w v l) (k : ∀ j, base ≤ j → j < w.heap.size → w'.heap[j]? = w.heap[j]?) : OwnT base w' v l := by
  rcases h.2 with ⟨rfl, h0⟩ | ⟨g, cap, cur, rfl, hb, hg, r⟩
  · exact ⟨h.1, .inl ⟨rfl, h0⟩⟩
  · exact ⟨h.1, .inr ⟨g, cap, cur, rfl, hb, (k g hb (lt_of_block hg)).trans hg, r⟩⟩
theorem AptT.keep {R s : Nat} {w w' : World} {v : Value} {l : List ByteArray} (h : AptT R s w v l) (k : ∀ j, R < j → j < w.heap.size → w'.heap[j]? = w.heap[j]?) (hs : R < s) : AptT R s w' v l := by
  rcases h with ⟨g, t, r, r2⟩ | h
  · exact .inl ⟨g, ⟨t.1, t.2.same (k g r (Bx.lt t.2))⟩, r, r2⟩
  · exact .inr (OwnT.kept2 h fun j hj => k j (by omega))
/-- What a step may change: row R, and what lies from block s on. -/
def StepK (R s : Nat) (b w' : World) : Prop := Below R b w' ∧ ∀ j, R < j → j < s → w'.heap[j]? = b.heap[j]?
theorem DevC.of {r : Dv × Nat} {w w' : World} {u : Value} {d : Dv} {n : Nat} (h : r = (d, n)) (hz : Zns w' w'.heap.size u d.zs) (q : Q w w') : DevC r w (.returned (.tuple #[dvV d u, .int .i64 (n : Nat)])) w' := by
  subst h; exact ⟨u, rfl, hz, q⟩
set_option maxHeartbeats 16000000 in
theorem cmd_any (d : Dv) (u : Value) (z : Int) (w : World) (p : Zn → Bool) (F : Nat → Zn → Zn) (J : Nat → Zn → Prop) (steps : Nat) (g1 g2 : Nat) (c1 c2 : Array Value)
    (eg1 : ∀ args w, (callFunc g1 args).run Try.prog w = .ok (.enter g1 args) w) (eg2 : ∀ args w, (callFunc g2 args).run Try.prog w = .ok (.enter g2 args) w)
    (hsteps : steps ≤ 100000) (hd : smD d) (hb : okN d) (ht : Zns w w.heap.size u d.zs)
    (hT : ∀ k (h : k < d.zs.length), z = (k : Int) → mayD d = true → ∀ b A c, Q w b → Calls Try.prog g1 (#[.agg #[.slice A d.zs[k].b.length c, .int .i64 d.zs[k].firm, .bool d.zs[k].full]] ++ c1) b fun e w' => e = .returned (.bool (p d.zs[k])) ∧ Q b w')
    (hJ0 : ∀ k (h : k < d.zs.length), z = (k : Int) → mayD d = true → p d.zs[k] = true → J 0 d.zs[k])
    (hJ1 : ∀ i x, i < steps → J i x → okZ (F i x) ∧ J (i + 1) (F i x))
    (hS : ∀ (i k R s : Nat) (x : Zn) (v : Value) (P : List (Zn × Value)) (a : Addr) (b : World), i < steps → J i x → Q w b → w.heap.size ≤ R → R < s → s ≤ b.heap.size → a = ⟨R, 0, none⟩ → P[k]? = some (x, v) → ZB b R P → AptT R s b v x.b →
      Calls Try.prog g2 (#[.pointer (some (a.add (k * 3))), .int .i64 i] ++ c2) b fun e w' => ∃ v', e = .returned (.tuple #[]) ∧ ZB w' R (P.set k (F i x, v')) ∧ AptT R s w' v' (F i x).b ∧ StepK R s b w') :
    Calls Try.prog 39 #[dvV d u, .int .i64 z, .func (.func g1) #[] c1, .int .i64 steps, .func (.func g2) #[] c2] w (DevC (cmdD d z p steps F) w) := by
  obtain ⟨A0, c0, rfl⟩ := ht.form
  obtain ⟨n0, hn0⟩ : ∃ n, n = d.zs.length := ⟨_, rfl⟩
  have HN0 := Lib.hid hn0
  rw [← hn0] at ht ⊢
  have hl : n0 ≤ 100000 := by rw [hn0]; exact hd.1
  have CM := Lib.hid (fun (x : World) (q : Q w x) => mayZ_any d (.slice A0 n0 c0) x hd (ht.on q))
  have CA := Lib.hid (fun (x : World) (q : Q w x) => allApart_any d (.slice A0 n0 c0) x hd (ht.on q))
  have CH := Lib.hid (fun (x : World) (a : Addr) => hasZ_any d z (some a) n0 x)
  rw [← hn0] at CH
  have CR := Lib.hid (fun (x : World) (a : Addr) (k : Int) => refuseZ_any d (some a) n0 n0 k x hb)
  have HV : Hid (cmdD d z p steps F = if mayD d = false then (noDv, 1) else if hasZ d z then (if p (atZn d z.toNat) = true then runD z.toNat F 0 steps d else (refD d, 8)) else (refD d, 12)) := Lib.hid rfl
  have HT := Lib.hid hT
  have HJ0 := Lib.hid hJ0
  have HJ1 := Lib.hid hJ1
  have HS := Lib.hid hS
  have HB := Lib.hid hb
  have HFU : Hid (mayD d = true → -1 ≤ d.fuel) := Lib.hid (fun h => (mayD_iff.1 h).2.2.2.2.2.1)
  have HZ0 : Hid (hasZ d z → ∃ k, k < n0 ∧ z = (k : Int)) := Lib.hid (fun h => ⟨z.toNat, by have h1 := h.1; have h2 := h.2; rw [← hn0] at h2; omega, by have h1 := h.1; omega⟩)
  have HAT : Hid (∀ k, k < d.zs.length → ∃ h : k < d.zs.length, atZn d k = d.zs[k]) := Lib.hid (fun k h => ⟨h, atZn_is h⟩)
  have HRZ : Hid ((refD d).zs = d.zs) := Lib.hid rfl
  obtain ⟨RES, hRES⟩ : ∃ r, r = cmdD d z p steps F := ⟨_, rfl⟩
  rw [← hRES] at HV ⊢
  obtain ⟨RD, hRD⟩ : ∃ r, r = refD d := ⟨_, rfl⟩
  rw [← hRD] at HV CR HRZ
  obtain ⟨may, hmay⟩ : ∃ b, b = mayD d := ⟨_, rfl⟩
  rw [← hmay] at HV CM HFU HT HJ0
  clear hRES hRD hmay hb hT hJ0 hJ1 hS ht
  obtain ⟨zs, size, mo, fuel, off, bad⟩ := d
  obtain ⟨zr, sr, mr, fr, or_, br⟩ := RD
  rw [dvV] at CM CA ⊢
  unfold dvV at CH CR
  simp only at CM CA HN0 HV CH CR HT HJ0 HB HFU HAT HRZ ⊢
  clear hn0 hd
  have b0 := (Bx.new w 24 #[.slice A0 n0 c0, .int .i64 size, .int .i64 mo, .int .i64 fuel, .bool off, .int .i64 bad]).alloc (.cells #[.slice none 0 0, .int .i64 0, .int .i64 0, .int .i64 0, .bool false, .int .i64 0] 24)
  have b1 := Bx.new (w.alloc (.cells #[.slice A0 n0 c0, .int .i64 size, .int .i64 mo, .int .i64 fuel, .bool off, .int .i64 bad] 24)) 24 #[.slice none 0 0, .int .i64 0, .int .i64 0, .int .i64 0, .bool false, .int .i64 0]
  have q0 := ((Q.refl w).alloc (.cells #[.slice A0 n0 c0, .int .i64 size, .int .i64 mo, .int .i64 fuel, .bool off, .int .i64 bad] 24)).alloc (.cells #[.slice none 0 0, .int .i64 0, .int .i64 0, .int .i64 0, .bool false, .int .i64 0] 24)
  have hs0 : ((w.alloc (.cells #[.slice A0 n0 c0, .int .i64 size, .int .i64 mo, .int .i64 fuel, .bool off, .int .i64 bad] 24)).alloc (.cells #[.slice none 0 0, .int .i64 0, .int .i64 0, .int .i64 0, .bool false, .int .i64 0] 24)).heap.size = w.heap.size + 1 + 1 := by simp
  simp only [World.size_alloc] at b1
  obtain ⟨W0, hW0⟩ : ∃ z, z = (w.alloc (.cells #[.slice A0 n0 c0, .int .i64 size, .int .i64 mo, .int .i64 fuel, .bool off, .int .i64 bad] 24)).alloc (.cells #[.slice none 0 0, .int .i64 0, .int .i64 0, .int .i64 0, .bool false, .int .i64 0] 24) := ⟨_, rfl⟩
  rw [← hW0] at b0 b1 q0 hs0
  have BX0 := Lib.hid b0
  have BX1 := Lib.hid b1
  have Q0 := Lib.hid q0
  have HS0 := Lib.hid hs0
  clear b0 b1 q0 hs0
  go_enter Try.func39, Try.ntmps39
  go_upto_region 1 with fail
  rw [← hW0]
  clear hW0
  obtain ⟨x0, x1, x2, x3, x4, x5⟩ : W0.cell? ⟨w.heap.size, 0, none⟩ = some (.slice A0 n0 c0) ∧ W0.cell? ⟨w.heap.size, 1, none⟩ = some (.int .i64 size) ∧ W0.cell? ⟨w.heap.size, 2, none⟩ = some (.int .i64 mo) ∧ W0.cell? ⟨w.heap.size, 3, none⟩ = some (.int .i64 fuel) ∧ W0.cell? ⟨w.heap.size, 4, none⟩ = some (.bool off) ∧ W0.cell? ⟨w.heap.size, 5, none⟩ = some (.int .i64 bad) := ⟨BX0.out.cell 0, BX0.out.cell 1, BX0.out.cell 2, BX0.out.cell 3, BX0.out.cell 4, BX0.out.cell 5⟩
  have CM1 := Lib.hid (CM.out _ Q0.out)
  cases may with
  | false =>
    have HV2 : Hid (RES = (noDv, 1)) := Lib.hid (by rw [HV.out, if_pos rfl])
    clear HV HT HJ0 HFU
    go_wp2_with fail
    refine (CM1.out).mono ?_
    rintro e w6 ⟨rfl, d6⟩
    clear x0 x1 x2 x3 x4 x5
    have b6 := BX1.out.on d6
    have q6 := Q0.out.trans d6
    obtain ⟨g0, g1, g2, g3, g4, g5⟩ : w6.cell? ⟨w.heap.size + 1, 0, none⟩ = some (.slice none 0 0) ∧ w6.cell? ⟨w.heap.size + 1, 1, none⟩ = some (.int .i64 0) ∧ w6.cell? ⟨w.heap.size + 1, 2, none⟩ = some (.int .i64 0) ∧ w6.cell? ⟨w.heap.size + 1, 3, none⟩ = some (.int .i64 0) ∧ w6.cell? ⟨w.heap.size + 1, 4, none⟩ = some (.bool false) ∧ w6.cell? ⟨w.heap.size + 1, 5, none⟩ = some (.int .i64 0) := ⟨b6.cell 0, b6.cell 1, b6.cell 2, b6.cell 3, b6.cell 4, b6.cell 5⟩
    have l0 := b6.frozen 0
    have l1 := b6.frozen 1
    have l2 := b6.frozen 2
    have l3 := b6.frozen 3
    have l4 := b6.frozen 4
    have l5 := b6.frozen 5
    have c9 := ((((((b6.set 0 (.slice none 0 0)).set 1 (.int .i64 0)).set 2 (.int .i64 0)).set 3 (.int .i64 0)).set 4 (.bool false)).set 5 (.int .i64 0))
    have q9 : Q w ((((((w6.setCell ⟨w.heap.size + 1, 0, none⟩ (.slice none 0 0)).setCell ⟨w.heap.size + 1, 1, none⟩ (.int .i64 0)).setCell ⟨w.heap.size + 1, 2, none⟩ (.int .i64 0)).setCell ⟨w.heap.size + 1, 3, none⟩ (.int .i64 0)).setCell ⟨w.heap.size + 1, 4, none⟩ (.bool false)).setCell ⟨w.heap.size + 1, 5, none⟩ (.int .i64 0)) := (Q.set (Q.set (Q.set (Q.set (Q.set (Q.set q6 (by omega) _) (by omega) _) (by omega) _) (by omega) _) (by omega) _) (by omega) _)
    have k9 : ∀ j, j ≠ w.heap.size + 1 → ((((((w6.setCell ⟨w.heap.size + 1, 0, none⟩ (.slice none 0 0)).setCell ⟨w.heap.size + 1, 1, none⟩ (.int .i64 0)).setCell ⟨w.heap.size + 1, 2, none⟩ (.int .i64 0)).setCell ⟨w.heap.size + 1, 3, none⟩ (.int .i64 0)).setCell ⟨w.heap.size + 1, 4, none⟩ (.bool false)).setCell ⟨w.heap.size + 1, 5, none⟩ (.int .i64 0)).heap[j]? = w6.heap[j]? := fun j hne => (heap_set _ _ _ _ hne).trans ( (heap_set _ _ _ _ hne).trans ( (heap_set _ _ _ _ hne).trans ( (heap_set _ _ _ _ hne).trans ( (heap_set _ _ _ _ hne).trans ( heap_set _ _ _ _ hne)))))
    obtain ⟨w9, hw9⟩ : ∃ z, z = ((((((w6.setCell ⟨w.heap.size + 1, 0, none⟩ (.slice none 0 0)).setCell ⟨w.heap.size + 1, 1, none⟩ (.int .i64 0)).setCell ⟨w.heap.size + 1, 2, none⟩ (.int .i64 0)).setCell ⟨w.heap.size + 1, 3, none⟩ (.int .i64 0)).setCell ⟨w.heap.size + 1, 4, none⟩ (.bool false)).setCell ⟨w.heap.size + 1, 5, none⟩ (.int .i64 0)) := ⟨_, rfl⟩
    rw [← hw9] at c9 q9 k9
    simp only [List.setIfInBounds_toArray, List.set_cons_zero, List.set_cons_succ] at c9
    have C9 := Lib.hid c9
    have Q9 := Lib.hid q9
    have K9 := Lib.hid k9
    clear c9 q9 k9
    go_wp2_with fail
    rw [← hw9]
    clear hw9
    obtain ⟨k0, k1, k2, k3, k4, k5⟩ : w9.cell? ⟨w.heap.size + 1, 0, none⟩ = some (.slice none 0 0) ∧ w9.cell? ⟨w.heap.size + 1, 1, none⟩ = some (.int .i64 0) ∧ w9.cell? ⟨w.heap.size + 1, 2, none⟩ = some (.int .i64 0) ∧ w9.cell? ⟨w.heap.size + 1, 3, none⟩ = some (.int .i64 0) ∧ w9.cell? ⟨w.heap.size + 1, 4, none⟩ = some (.bool false) ∧ w9.cell? ⟨w.heap.size + 1, 5, none⟩ = some (.int .i64 0) := ⟨C9.out.cell 0, C9.out.cell 1, C9.out.cell 2, C9.out.cell 3, C9.out.cell 4, C9.out.cell 5⟩
    (try simp only [Exit.inBlock, Exit.then])
    refine bodyPost_ret (v := .tuple #[.agg #[.slice none 0 0, .int .i64 0, .int .i64 0, .int .i64 0, .bool false, .int .i64 0], .int .i64 1]) ?_ rfl ?_
    · rw [results_cell_tmp rfl]
      go_simp
    · exact DevC.of (n := 1) (u := .slice none 0 0) HV2.out (Zns.nil _ _) Q9.out
  | true =>
    have HFU2 := Lib.hid (HFU.out rfl)
    have HT2 := Lib.hid (fun k h e => HT.out k h e rfl)
    have HJ02 := Lib.hid (fun k h e => HJ0.out k h e rfl)
    clear HFU HT HJ0
    go_wp2_with fail
    refine (CM1.out).mono ?_
    rintro e w5 ⟨rfl, d5⟩
    clear x0 x1 x2 x3 x4 x5
    have D5 := Lib.hid d5
    clear d5
    have CA1 := Lib.hid (CA.out _ (Q0.out.trans D5.out))
    obtain ⟨x0, x1, x2, x3, x4, x5⟩ : w5.cell? ⟨w.heap.size, 0, none⟩ = some (.slice A0 n0 c0) ∧ w5.cell? ⟨w.heap.size, 1, none⟩ = some (.int .i64 size) ∧ w5.cell? ⟨w.heap.size, 2, none⟩ = some (.int .i64 mo) ∧ w5.cell? ⟨w.heap.size, 3, none⟩ = some (.int .i64 fuel) ∧ w5.cell? ⟨w.heap.size, 4, none⟩ = some (.bool off) ∧ w5.cell? ⟨w.heap.size, 5, none⟩ = some (.int .i64 bad) := ⟨(BX0.out.on D5.out).cell 0, (BX0.out.on D5.out).cell 1, (BX0.out.on D5.out).cell 2, (BX0.out.on D5.out).cell 3, (BX0.out.on D5.out).cell 4, (BX0.out.on D5.out).cell 5⟩
    go_wp2_with fail
    refine (CA1.out).mono ?_
    rintro e w6 ⟨R, P, rfl, hR, hP, hok, hz, hf, d6⟩
    clear x0 x1 x2 x3 x4 x5
    rw [dvV]
    simp only at hP ⊢
    rw [← HN0.out]
    have HP := Lib.hid hP
    have HOK := Lib.hid hok
    have HZ := Lib.hid hz
    have HF := Lib.hid hf
    have HR : Hid (w.heap.size + 1 < R) := Lib.hid (by have := D5.out.size; have := HS0.out; omega)
    have D6 := Lib.hid (D5.out.trans d6)
    have hPn : P.length = n0 := by rw [HN0.out, ← HP.out, List.length_map]
    clear hP hok hz hf hR d6
    obtain ⟨a, ha⟩ : ∃ a : Addr, a = ⟨R, 0, none⟩ := ⟨_, rfl⟩
    rw [← ha]
    have HA := Lib.hid ha
    clear ha
    have b6 := BX0.out.on D6.out
    have b61 := BX1.out.on D6.out
    have q6 := Q0.out.trans D6.out
    obtain ⟨x0, x1, x2, x3, x4, x5⟩ : w6.cell? ⟨w.heap.size, 0, none⟩ = some (.slice A0 n0 c0) ∧ w6.cell? ⟨w.heap.size, 1, none⟩ = some (.int .i64 size) ∧ w6.cell? ⟨w.heap.size, 2, none⟩ = some (.int .i64 mo) ∧ w6.cell? ⟨w.heap.size, 3, none⟩ = some (.int .i64 fuel) ∧ w6.cell? ⟨w.heap.size, 4, none⟩ = some (.bool off) ∧ w6.cell? ⟨w.heap.size, 5, none⟩ = some (.int .i64 bad) := ⟨b6.cell 0, b6.cell 1, b6.cell 2, b6.cell 3, b6.cell 4, b6.cell 5⟩
    have l0 := b6.frozen 0
    have l1 := b6.frozen 1
    have l2 := b6.frozen 2
    have l3 := b6.frozen 3
    have l4 := b6.frozen 4
    have l5 := b6.frozen 5
    go_upto_region 4 with fail
    clear x0 x1 x2 x3 x4 x5 l0 l1 l2 l3 l4 l5
    have c_ := ((((((b6.set 0 (.slice (some a) n0 n0)).set 1 (.int .i64 size)).set 2 (.int .i64 mo)).set 3 (.int .i64 fuel)).set 4 (.bool off)).set 5 (.int .i64 bad))
    have q_ : Q w ((((((w6.setCell ⟨w.heap.size, 0, none⟩ (.slice (some a) n0 n0)).setCell ⟨w.heap.size, 1, none⟩ (.int .i64 size)).setCell ⟨w.heap.size, 2, none⟩ (.int .i64 mo)).setCell ⟨w.heap.size, 3, none⟩ (.int .i64 fuel)).setCell ⟨w.heap.size, 4, none⟩ (.bool off)).setCell ⟨w.heap.size, 5, none⟩ (.int .i64 bad)) := (Q.set (Q.set (Q.set (Q.set (Q.set (Q.set q6 (by omega) _) (by omega) _) (by omega) _) (by omega) _) (by omega) _) (by omega) _)
    have k_ : ∀ j, j ≠ w.heap.size → ((((((w6.setCell ⟨w.heap.size, 0, none⟩ (.slice (some a) n0 n0)).setCell ⟨w.heap.size, 1, none⟩ (.int .i64 size)).setCell ⟨w.heap.size, 2, none⟩ (.int .i64 mo)).setCell ⟨w.heap.size, 3, none⟩ (.int .i64 fuel)).setCell ⟨w.heap.size, 4, none⟩ (.bool off)).setCell ⟨w.heap.size, 5, none⟩ (.int .i64 bad)).heap[j]? = w6.heap[j]? := fun j hne => (heap_set _ _ _ _ hne).trans ( (heap_set _ _ _ _ hne).trans ( (heap_set _ _ _ _ hne).trans ( (heap_set _ _ _ _ hne).trans ( (heap_set _ _ _ _ hne).trans ( heap_set _ _ _ _ hne)))))
    have s_ : w6.heap.size ≤ ((((((w6.setCell ⟨w.heap.size, 0, none⟩ (.slice (some a) n0 n0)).setCell ⟨w.heap.size, 1, none⟩ (.int .i64 size)).setCell ⟨w.heap.size, 2, none⟩ (.int .i64 mo)).setCell ⟨w.heap.size, 3, none⟩ (.int .i64 fuel)).setCell ⟨w.heap.size, 4, none⟩ (.bool off)).setCell ⟨w.heap.size, 5, none⟩ (.int .i64 bad)).heap.size := by simp
    obtain ⟨w7, hw7⟩ : ∃ z, z = ((((((w6.setCell ⟨w.heap.size, 0, none⟩ (.slice (some a) n0 n0)).setCell ⟨w.heap.size, 1, none⟩ (.int .i64 size)).setCell ⟨w.heap.size, 2, none⟩ (.int .i64 mo)).setCell ⟨w.heap.size, 3, none⟩ (.int .i64 fuel)).setCell ⟨w.heap.size, 4, none⟩ (.bool off)).setCell ⟨w.heap.size, 5, none⟩ (.int .i64 bad)) := ⟨_, rfl⟩
    rw [← hw7] at c_ q_ k_ s_ ⊢
    clear hw7
    simp only [List.setIfInBounds_toArray, List.set_cons_zero, List.set_cons_succ] at c_
    have Cw7 : Hid (Bx w7 (w.heap.size) 24 #[.slice (some a) n0 n0, .int .i64 size, .int .i64 mo, .int .i64 fuel, .bool off, .int .i64 bad]) := Lib.hid c_
    have Qw7 := Lib.hid q_
    have Kw7 := Lib.hid k_
    have Sw7 := Lib.hid s_
    clear c_ q_ k_ s_
    have B1 := Lib.hid (b61.same (Kw7.out _ (by omega)))
    have HZ7 : Hid (ZB w7 R P) := Lib.hid (Bx.same HZ.out (Kw7.out _ (by have := HR.out; omega)))
    have HF7 : Hid (Fr w7 R P P.length) := Lib.hid (HF.out.keep (fun j hj => Kw7.out j (by have := HR.out; omega)))
    have HZN : Hid (∀ x, Q w7 x → Zns x x.heap.size (.slice (some a) n0 n0) zs) := Lib.hid (fun x q => by
      have := fr_zns HZ7.out HF7.out HOK.out HP.out
      rw [← HN0.out, ← HA.out] at this
      exact this.on q)
    clear b6 b61 q6 HZ HF Kw7
    obtain ⟨x0, x1, x2, x3, x4, x5⟩ : w7.cell? ⟨w.heap.size, 0, none⟩ = some (.slice (some a) n0 n0) ∧ w7.cell? ⟨w.heap.size, 1, none⟩ = some (.int .i64 size) ∧ w7.cell? ⟨w.heap.size, 2, none⟩ = some (.int .i64 mo) ∧ w7.cell? ⟨w.heap.size, 3, none⟩ = some (.int .i64 fuel) ∧ w7.cell? ⟨w.heap.size, 4, none⟩ = some (.bool off) ∧ w7.cell? ⟨w.heap.size, 5, none⟩ = some (.int .i64 bad) := ⟨Cw7.out.cell 0, Cw7.out.cell 1, Cw7.out.cell 2, Cw7.out.cell 3, Cw7.out.cell 4, Cw7.out.cell 5⟩
    by_cases hz : hasZ ⟨zs, size, mo, fuel, off, bad⟩ z
    · have hz' : decide (hasZ ⟨zs, size, mo, fuel, off, bad⟩ z) = true := by simpa using hz
      rw [hz'] at CH
      obtain ⟨k, hkn, hzk⟩ := HZ0.out hz
      have HV3 : Hid (RES = if p (atZn ⟨zs, size, mo, fuel, off, bad⟩ k) = true then runD k F 0 steps ⟨zs, size, mo, fuel, off, bad⟩ else (⟨zr, sr, mr, fr, or_, br⟩, 8)) := Lib.hid (by
        rw [HV.out, if_neg (by simp), if_pos hz, hzk]; rfl)
      have hkl : k < zs.length := by rw [← HN0.out]; exact hkn
      obtain ⟨_, hat⟩ := HAT.out k hkl
      rw [hat] at HV3
      have CT := Lib.hid (fun b A c q => HT2.out k hkl hzk b A c q)
      have HJ := Lib.hid (HJ02.out k hkl hzk)
      have HPK : Hid (∃ v, P[k]? = some (zs[k], v) ∧ ∃ g, TB w7 v zs[k].b g ∧ R < g) := Lib.hid (by
        have hkP : k < P.length := by omega
        obtain ⟨g, t, r, -⟩ := HF7.out k P[k] hkP (List.getElem?_eq_getElem hkP)
        have e : P[k].1 = zs[k] := by simp [← HP.out]
        rw [e] at t
        exact ⟨P[k].2, by rw [List.getElem?_eq_getElem hkP, ← e], g, t, r⟩)
      have HZS : Hid (atZn ⟨zs, size, mo, fuel, off, bad⟩ k = zs[k]) := Lib.hid hat
      obtain ⟨x, hx⟩ : ∃ x, x = zs[k] := ⟨_, rfl⟩
      rw [← hx] at CT HJ HPK HV3 HZS
      clear hat hx HV HAT HT2 HJ02 HZ0 hz hz' hkl
      subst hzk
      have hki : (k : Int) < (n0 : Int) := by omega
      obtain ⟨v, hPk, g0, tb0, hg0⟩ := HPK.out
      clear HPK
      go_wp2_with fail
      refine (CH.out _ _).mono ?_
      rintro e w7b ⟨rfl, d7⟩
      clear x0 x1 x2 x3 x4 x5
      have hkP : k < P.length := by omega
      have hPk2 : P[k] = (x, v) := by rw [List.getElem?_eq_getElem hkP] at hPk; injection hPk
      obtain ⟨z0, z1, z2, -⟩ := (show ZB w7b R P from Bx.on HZ7.out d7).at HA.out k hkP
      rw [hPk2] at z0 z1 z2
      have hv := tb0.1
      rw [hv] at z0
      simp only at z0 z1 z2
      obtain ⟨x0, x1, x2, x3, x4, x5⟩ : w7b.cell? ⟨w.heap.size, 0, none⟩ = some (.slice (some a) n0 n0) ∧ w7b.cell? ⟨w.heap.size, 1, none⟩ = some (.int .i64 size) ∧ w7b.cell? ⟨w.heap.size, 2, none⟩ = some (.int .i64 mo) ∧ w7b.cell? ⟨w.heap.size, 3, none⟩ = some (.int .i64 fuel) ∧ w7b.cell? ⟨w.heap.size, 4, none⟩ = some (.bool off) ∧ w7b.cell? ⟨w.heap.size, 5, none⟩ = some (.int .i64 bad) := ⟨(Cw7.out.on d7).cell 0, (Cw7.out.on d7).cell 1, (Cw7.out.on d7).cell 2, (Cw7.out.on d7).cell 3, (Cw7.out.on d7).cell 4, (Cw7.out.on d7).cell 5⟩
      have D7 := Lib.hid d7
      have CT1 := Lib.hid (CT.out w7b (some ⟨g0, 0, none⟩) x.b.length (Qw7.out.trans d7))
      have TB0 := Lib.hid tb0
      have HPK := Lib.hid hPk
      clear CT hPk2 hPk hv tb0 d7
      cases hpx : p x with
      | false =>
        rw [hpx] at CT1
        have HV4 : Hid (RES = (⟨zr, sr, mr, fr, or_, br⟩, 8)) := Lib.hid (by rw [HV3.out, hpx]; rfl)
        clear hpx HV3 HJ
        go_wp2_with fail
        go_at_fn g1
        refine (CT1.out).mono ?_
        rintro e w8 ⟨rfl, d8⟩
        clear x0 x1 x2 x3 x4 x5 z0 z1 z2
        obtain ⟨x0, x1, x2, x3, x4, x5⟩ : w8.cell? ⟨w.heap.size, 0, none⟩ = some (.slice (some a) n0 n0) ∧ w8.cell? ⟨w.heap.size, 1, none⟩ = some (.int .i64 size) ∧ w8.cell? ⟨w.heap.size, 2, none⟩ = some (.int .i64 mo) ∧ w8.cell? ⟨w.heap.size, 3, none⟩ = some (.int .i64 fuel) ∧ w8.cell? ⟨w.heap.size, 4, none⟩ = some (.bool off) ∧ w8.cell? ⟨w.heap.size, 5, none⟩ = some (.int .i64 bad) := ⟨((Cw7.out.on D7.out).on d8).cell 0, ((Cw7.out.on D7.out).on d8).cell 1, ((Cw7.out.on D7.out).on d8).cell 2, ((Cw7.out.on D7.out).on d8).cell 3, ((Cw7.out.on D7.out).on d8).cell 4, ((Cw7.out.on D7.out).on d8).cell 5⟩
        have D8 := Lib.hid (D7.out.trans d8)
        clear d8
        go_wp2_with fail
        refine (CR.out _ _ _).mono ?_
        rintro e w8b ⟨rfl, d8b⟩
        clear x0 x1 x2 x3 x4 x5
        have b8 := B1.out.on (D8.out.trans d8b)
        have q8 := Qw7.out.trans (D8.out.trans d8b)
        have qk := D8.out.trans d8b
        obtain ⟨g0, g1, g2, g3, g4, g5⟩ : w8b.cell? ⟨w.heap.size + 1, 0, none⟩ = some (.slice none 0 0) ∧ w8b.cell? ⟨w.heap.size + 1, 1, none⟩ = some (.int .i64 0) ∧ w8b.cell? ⟨w.heap.size + 1, 2, none⟩ = some (.int .i64 0) ∧ w8b.cell? ⟨w.heap.size + 1, 3, none⟩ = some (.int .i64 0) ∧ w8b.cell? ⟨w.heap.size + 1, 4, none⟩ = some (.bool false) ∧ w8b.cell? ⟨w.heap.size + 1, 5, none⟩ = some (.int .i64 0) := ⟨b8.cell 0, b8.cell 1, b8.cell 2, b8.cell 3, b8.cell 4, b8.cell 5⟩
        have l0 := b8.frozen 0
        have l1 := b8.frozen 1
        have l2 := b8.frozen 2
        have l3 := b8.frozen 3
        have l4 := b8.frozen 4
        have l5 := b8.frozen 5
        have c9 := ((((((b8.set 0 (.slice (some a) n0 n0)).set 1 (.int .i64 sr)).set 2 (.int .i64 mr)).set 3 (.int .i64 fr)).set 4 (.bool or_)).set 5 (.int .i64 br))
        have q9 : Q w ((((((w8b.setCell ⟨w.heap.size + 1, 0, none⟩ (.slice (some a) n0 n0)).setCell ⟨w.heap.size + 1, 1, none⟩ (.int .i64 sr)).setCell ⟨w.heap.size + 1, 2, none⟩ (.int .i64 mr)).setCell ⟨w.heap.size + 1, 3, none⟩ (.int .i64 fr)).setCell ⟨w.heap.size + 1, 4, none⟩ (.bool or_)).setCell ⟨w.heap.size + 1, 5, none⟩ (.int .i64 br)) := (Q.set (Q.set (Q.set (Q.set (Q.set (Q.set q8 (by omega) _) (by omega) _) (by omega) _) (by omega) _) (by omega) _) (by omega) _)
        have k9 : ∀ j, j ≠ w.heap.size + 1 → ((((((w8b.setCell ⟨w.heap.size + 1, 0, none⟩ (.slice (some a) n0 n0)).setCell ⟨w.heap.size + 1, 1, none⟩ (.int .i64 sr)).setCell ⟨w.heap.size + 1, 2, none⟩ (.int .i64 mr)).setCell ⟨w.heap.size + 1, 3, none⟩ (.int .i64 fr)).setCell ⟨w.heap.size + 1, 4, none⟩ (.bool or_)).setCell ⟨w.heap.size + 1, 5, none⟩ (.int .i64 br)).heap[j]? = w8b.heap[j]? := fun j hne => (heap_set _ _ _ _ hne).trans ( (heap_set _ _ _ _ hne).trans ( (heap_set _ _ _ _ hne).trans ( (heap_set _ _ _ _ hne).trans ( (heap_set _ _ _ _ hne).trans ( heap_set _ _ _ _ hne)))))
        obtain ⟨w9, hw9⟩ : ∃ z, z = ((((((w8b.setCell ⟨w.heap.size + 1, 0, none⟩ (.slice (some a) n0 n0)).setCell ⟨w.heap.size + 1, 1, none⟩ (.int .i64 sr)).setCell ⟨w.heap.size + 1, 2, none⟩ (.int .i64 mr)).setCell ⟨w.heap.size + 1, 3, none⟩ (.int .i64 fr)).setCell ⟨w.heap.size + 1, 4, none⟩ (.bool or_)).setCell ⟨w.heap.size + 1, 5, none⟩ (.int .i64 br)) := ⟨_, rfl⟩
        rw [← hw9] at c9 q9 k9
        simp only [List.setIfInBounds_toArray, List.set_cons_zero, List.set_cons_succ] at c9
        have C9 := Lib.hid c9
        have Q9 := Lib.hid q9
        have K9 := Lib.hid k9
        clear c9 q9 k9
        go_wp2_with fail
        rw [← hw9]
        clear hw9
        obtain ⟨k0, k1, k2, k3, k4, k5⟩ : w9.cell? ⟨w.heap.size + 1, 0, none⟩ = some (.slice (some a) n0 n0) ∧ w9.cell? ⟨w.heap.size + 1, 1, none⟩ = some (.int .i64 sr) ∧ w9.cell? ⟨w.heap.size + 1, 2, none⟩ = some (.int .i64 mr) ∧ w9.cell? ⟨w.heap.size + 1, 3, none⟩ = some (.int .i64 fr) ∧ w9.cell? ⟨w.heap.size + 1, 4, none⟩ = some (.bool or_) ∧ w9.cell? ⟨w.heap.size + 1, 5, none⟩ = some (.int .i64 br) := ⟨C9.out.cell 0, C9.out.cell 1, C9.out.cell 2, C9.out.cell 3, C9.out.cell 4, C9.out.cell 5⟩
        (try simp only [Exit.inBlock, Exit.then])
        refine bodyPost_ret (v := .tuple #[.agg #[.slice (some a) n0 n0, .int .i64 sr, .int .i64 mr, .int .i64 fr, .bool or_, .int .i64 br], .int .i64 8]) ?_ rfl ?_
        · rw [results_cell_tmp rfl]
          go_simp
        · have hk : ∀ j, R ≤ j → w9.heap[j]? = w8b.heap[j]? := fun j hj => K9.out j (by have := HR.out; omega)
          have hf9 : Fr w9 R P P.length := fun i p hi hp => by
            obtain ⟨g, t, r, f⟩ := HF7.out i p hi hp
            exact ⟨g, ⟨t.1, (t.2.on qk).same (hk g (by omega))⟩, r, f⟩
          have := fr_zns (w := w9) (Bx.same (Bx.on HZ7.out qk) (hk R (Nat.le_refl _))) hf9 HOK.out HP.out
          rw [← HN0.out, ← HA.out] at this
          exact DevC.of (n := 8) HV4.out (by rw [HRZ.out]; exact this) Q9.out
      | true =>
        rw [hpx] at CT1
        have HV4 : Hid (RES = runD k F 0 steps ⟨zs, size, mo, fuel, off, bad⟩) := Lib.hid (by rw [HV3.out, hpx]; rfl)
        have HJ := Lib.hid (HJ.out hpx)
        clear hpx HV3
        go_wp2_with fail
        go_at_fn g1
        refine (CT1.out).mono ?_
        rintro e w8 ⟨rfl, d8⟩
        clear x0 x1 x2 x3 x4 x5 z0 z1 z2
        have D8 := Lib.hid (D7.out.trans d8)
        have C8 := Lib.hid (Cw7.out.on D8.out)
        have Q8 := Lib.hid (Qw7.out.trans D8.out)
        have HZ8 := Lib.hid (show ZB w8 R P from Bx.on HZ7.out D8.out)
        clear d8
        obtain ⟨s, hs⟩ : ∃ s, s = w8.heap.size := ⟨_, rfl⟩
        have HSZ := Lib.hid hs
        clear hs
        have hRs : Hid (R < s) := Lib.hid (by rw [HSZ.out]; exact Bx.lt HZ8.out)
        have HAP : Hid (AptT R s w8 v x.b) := Lib.hid (.inl ⟨g0, TB0.out.on D8.out, hg0, by rw [HSZ.out]; exact Bx.lt (TB0.out.on D8.out).2⟩)
        have HOT : Hid (∀ y, (∀ j, R < j → j < s → y.heap[j]? = w8.heap[j]?) → ∀ q ∈ P, ∃ g, TB y q.2 q.1.b g) := Lib.hid (fun y hy q hq => by
          obtain ⟨i, hi, rfl⟩ := List.getElem_of_mem hq
          obtain ⟨g, t, r, f⟩ := HF7.out i P[i] hi (List.getElem?_eq_getElem hi)
          have t8 := t.on D8.out
          exact ⟨g, ⟨t.1, t8.2.same (hy g r (by rw [HSZ.out]; exact Bx.lt t8.2))⟩⟩)
        have KB1 : Hid (Bx w8 (w.heap.size + 1) 24 #[.slice none 0 0, .int .i64 0, .int .i64 0, .int .i64 0, .bool false, .int .i64 0]) := Lib.hid (B1.out.on D8.out)
        have HFIN : Hid (∀ y xi vi, ZB y R (P.set k (xi, vi)) → AptT R s y vi xi.b → okZ xi → (∀ j, R < j → j < s → y.heap[j]? = w8.heap[j]?) → Zns y y.heap.size (.slice (some a) n0 n0) (zs.set k xi)) := Lib.hid (fun y xi vi hz ha ho hk => by
          have := ZB.zns hz HA.out (fun q hq => by
            rcases List.mem_or_eq_of_mem_set hq with hq | rfl
            · obtain ⟨g, t⟩ := HOT.out y hk q hq
              exact ⟨HOK.out q hq, t.blks.more (Bx.lt t.2)⟩
            · exact ⟨ho, ha.blks⟩) (n := n0) (by rw [List.length_set]; exact hPn.symm)
          rw [List.map_set, HP.out] at this
          exact this)
        have HZX : Hid (zs[k]? = some x) := Lib.hid (by
          rw [← HP.out, List.getElem?_map, HPK.out]; rfl)
        have HXS : Hid (zs.set k x = zs) := Lib.hid (set_self _ _ _ HZX.out)
        have HPS : Hid (P.set k (x, v) = P) := Lib.hid (set_self _ _ _ HPK.out)
        have HXO : Hid (okZ x) := Lib.hid (HOK.out (x, v) (List.mem_of_getElem? HPK.out))
        have hkz : k < zs.length := by rw [← HN0.out]; exact hkn
        have HAW : Hid (∀ xi si mi fi oi bi, atZn ⟨zs.set k xi, si, mi, fi, oi, bi⟩ k = xi) := Lib.hid (fun xi si mi fi oi bi => by unfold atZn; simp [hkz])
        clear hkz HZS
        go_wp2_with fail
        go_loopw [41] (fun I wr => ∃ (i : Nat) (xi : Zn) (vi : Value) (si mi fi : Int) (oi : Bool) (bi : Int), i ≤ steps ∧ I = .int .i64 i ∧ Hid (RES = runD k F i (steps - i) ⟨zs.set k xi, si, mi, fi, oi, bi⟩) ∧ Hid (J i xi) ∧ Hid (okZ xi) ∧ Hid ((okI64 fi ∧ okI64 bi) ∧ -1 ≤ fi)
            ∧ Hid (Bx wr w.heap.size 24 #[.slice (some a) n0 n0, .int .i64 si, .int .i64 mi, .int .i64 fi, .bool oi, .int .i64 bi]) ∧ Hid (ZB wr R (P.set k (xi, vi))) ∧ Hid (AptT R s wr vi xi.b) ∧ Hid (∀ j, R < j → j < s → wr.heap[j]? = w8.heap[j]?) ∧ Hid (Bx wr (w.heap.size + 1) 24 #[.slice none 0 0, .int .i64 0, .int .i64 0, .int .i64 0, .bool false, .int .i64 0]) ∧ Hid (Q w wr) ∧ Hid (s ≤ wr.heap.size)) (fun I _ => steps - (intOf I).toNat)
        case atStart => exact ⟨0, x, v, size, mo, fuel, off, bad, Nat.zero_le _, rfl, Lib.hid (by rw [HXS.out]; exact HV4.out), HJ, HXO, Lib.hid ⟨HB.out, HFU2.out⟩, C8, Lib.hid (by rw [HPS.out]; exact HZ8.out), HAP, Lib.hid (fun _ _ _ => rfl), KB1, Q8, Lib.hid (by rw [HSZ.out]; exact Nat.le_refl _)⟩
        case round =>
          obtain ⟨i, xi, vi, si, mi, fi, oi, bi, hil, rfl, HR1, HJi, HOi, HNi, HBi, HZi, HAi, HKi, HB1, HQi, HSi⟩ := hrel
          by_cases hlt : i < steps
          · have hilt : (i : Int) < (steps : Int) := by omega
            have CB := Lib.hid (burnZ_any ⟨zs.set k xi, si, mi, fi, oi, bi⟩ (some a) n0 n0 wr HNi.out.1 HNi.out.2)
            have HRN : Hid (RES = if (burnD ⟨zs.set k xi, si, mi, fi, oi, bi⟩).2 = true then runD k F (i + 1) (steps - (i + 1)) (setZn (burnD ⟨zs.set k xi, si, mi, fi, oi, bi⟩).1 k (F i (atZn (burnD ⟨zs.set k xi, si, mi, fi, oi, bi⟩).1 k))) else ((burnD ⟨zs.set k xi, si, mi, fi, oi, bi⟩).1, 10)) := Lib.hid (by
              rw [HR1.out, show steps - i = (steps - (i + 1)) + 1 by omega]; rfl)
            have HNJ := Lib.hid (burn_okN (d := ⟨zs.set k xi, si, mi, fi, oi, bi⟩) HNi.out.1 HNi.out.2)
            have HZJ := Lib.hid (burn_zs ⟨zs.set k xi, si, mi, fi, oi, bi⟩)
            obtain ⟨Bn, hBn⟩ : ∃ r, r = burnD ⟨zs.set k xi, si, mi, fi, oi, bi⟩ := ⟨_, rfl⟩
            rw [← hBn] at CB HRN HNJ HZJ
            clear hBn
            obtain ⟨⟨zj, sj, mj, fj, oj, bj⟩, on⟩ := Bn
            unfold dvV at CB
            simp only at CB HRN HNJ HZJ
            obtain ⟨x0, x1, x2, x3, x4, x5⟩ : wr.cell? ⟨w.heap.size, 0, none⟩ = some (.slice (some a) n0 n0) ∧ wr.cell? ⟨w.heap.size, 1, none⟩ = some (.int .i64 si) ∧ wr.cell? ⟨w.heap.size, 2, none⟩ = some (.int .i64 mi) ∧ wr.cell? ⟨w.heap.size, 3, none⟩ = some (.int .i64 fi) ∧ wr.cell? ⟨w.heap.size, 4, none⟩ = some (.bool oi) ∧ wr.cell? ⟨w.heap.size, 5, none⟩ = some (.int .i64 bi) := ⟨HBi.out.cell 0, HBi.out.cell 1, HBi.out.cell 2, HBi.out.cell 3, HBi.out.cell 4, HBi.out.cell 5⟩
            go_wp2_with fail
            refine (CB.out).mono ?_
            rintro e wb ⟨rfl, db⟩
            clear x0 x1 x2 x3 x4 x5
            have bi_ := HBi.out.on db
            have qi_ := HQi.out.trans db
            have DBq := Lib.hid db
            clear db
            obtain ⟨x0, x1, x2, x3, x4, x5⟩ : wb.cell? ⟨w.heap.size, 0, none⟩ = some (.slice (some a) n0 n0) ∧ wb.cell? ⟨w.heap.size, 1, none⟩ = some (.int .i64 si) ∧ wb.cell? ⟨w.heap.size, 2, none⟩ = some (.int .i64 mi) ∧ wb.cell? ⟨w.heap.size, 3, none⟩ = some (.int .i64 fi) ∧ wb.cell? ⟨w.heap.size, 4, none⟩ = some (.bool oi) ∧ wb.cell? ⟨w.heap.size, 5, none⟩ = some (.int .i64 bi) := ⟨bi_.cell 0, bi_.cell 1, bi_.cell 2, bi_.cell 3, bi_.cell 4, bi_.cell 5⟩
            have l0 := bi_.frozen 0
            have l1 := bi_.frozen 1
            have l2 := bi_.frozen 2
            have l3 := bi_.frozen 3
            have l4 := bi_.frozen 4
            have l5 := bi_.frozen 5
            go_upto_region 13 with fail
            clear x0 x1 x2 x3 x4 x5 l0 l1 l2 l3 l4 l5
            have c_ := ((((((bi_.set 0 (.slice (some a) n0 n0)).set 1 (.int .i64 sj)).set 2 (.int .i64 mj)).set 3 (.int .i64 fj)).set 4 (.bool oj)).set 5 (.int .i64 bj))
            have q_ : Q w ((((((wb.setCell ⟨w.heap.size, 0, none⟩ (.slice (some a) n0 n0)).setCell ⟨w.heap.size, 1, none⟩ (.int .i64 sj)).setCell ⟨w.heap.size, 2, none⟩ (.int .i64 mj)).setCell ⟨w.heap.size, 3, none⟩ (.int .i64 fj)).setCell ⟨w.heap.size, 4, none⟩ (.bool oj)).setCell ⟨w.heap.size, 5, none⟩ (.int .i64 bj)) := (Q.set (Q.set (Q.set (Q.set (Q.set (Q.set qi_ (by omega) _) (by omega) _) (by omega) _) (by omega) _) (by omega) _) (by omega) _)
            have k_ : ∀ j, j ≠ w.heap.size → ((((((wb.setCell ⟨w.heap.size, 0, none⟩ (.slice (some a) n0 n0)).setCell ⟨w.heap.size, 1, none⟩ (.int .i64 sj)).setCell ⟨w.heap.size, 2, none⟩ (.int .i64 mj)).setCell ⟨w.heap.size, 3, none⟩ (.int .i64 fj)).setCell ⟨w.heap.size, 4, none⟩ (.bool oj)).setCell ⟨w.heap.size, 5, none⟩ (.int .i64 bj)).heap[j]? = wb.heap[j]? := fun j hne => (heap_set _ _ _ _ hne).trans ( (heap_set _ _ _ _ hne).trans ( (heap_set _ _ _ _ hne).trans ( (heap_set _ _ _ _ hne).trans ( (heap_set _ _ _ _ hne).trans ( heap_set _ _ _ _ hne)))))
            have s_ : wb.heap.size ≤ ((((((wb.setCell ⟨w.heap.size, 0, none⟩ (.slice (some a) n0 n0)).setCell ⟨w.heap.size, 1, none⟩ (.int .i64 sj)).setCell ⟨w.heap.size, 2, none⟩ (.int .i64 mj)).setCell ⟨w.heap.size, 3, none⟩ (.int .i64 fj)).setCell ⟨w.heap.size, 4, none⟩ (.bool oj)).setCell ⟨w.heap.size, 5, none⟩ (.int .i64 bj)).heap.size := by simp
            obtain ⟨wa, hwa⟩ : ∃ z, z = ((((((wb.setCell ⟨w.heap.size, 0, none⟩ (.slice (some a) n0 n0)).setCell ⟨w.heap.size, 1, none⟩ (.int .i64 sj)).setCell ⟨w.heap.size, 2, none⟩ (.int .i64 mj)).setCell ⟨w.heap.size, 3, none⟩ (.int .i64 fj)).setCell ⟨w.heap.size, 4, none⟩ (.bool oj)).setCell ⟨w.heap.size, 5, none⟩ (.int .i64 bj)) := ⟨_, rfl⟩
            rw [← hwa] at c_ q_ k_ s_ ⊢
            clear hwa
            simp only [List.setIfInBounds_toArray, List.set_cons_zero, List.set_cons_succ] at c_
            have Cwa : Hid (Bx wa (w.heap.size) 24 #[.slice (some a) n0 n0, .int .i64 sj, .int .i64 mj, .int .i64 fj, .bool oj, .int .i64 bj]) := Lib.hid c_
            have Qwa := Lib.hid q_
            have Kwa := Lib.hid k_
            have Swa := Lib.hid s_
            clear c_ q_ k_ s_
            have B1a := Lib.hid ((HB1.out.on DBq.out).same (Kwa.out _ (by omega)))
            have HZa : Hid (ZB wa R (P.set k (xi, vi))) := Lib.hid (Bx.same (Bx.on HZi.out DBq.out) (Kwa.out _ (by have := HR.out; omega)))
            have hsb : Hid (s ≤ wb.heap.size) := Lib.hid (Nat.le_trans HSi.out DBq.out.size)
            have hsa : Hid (s ≤ wa.heap.size) := Lib.hid (by
              refine Nat.le_trans hsb.out ?_
              exact Swa.out)
            have HAa : Hid (AptT R s wa vi xi.b) := Lib.hid ((HAi.out.on DBq.out).keep (fun j hj _ => Kwa.out j (by have := HR.out; omega)) hRs.out)
            have HKa : Hid (∀ j, R < j → j < s → wa.heap[j]? = w8.heap[j]?) := Lib.hid (fun j h1 h2 => by
              rw [Kwa.out j (by have := HR.out; omega), DBq.out.block j (by have := HSi.out; omega), HKi.out j h1 h2])
            clear bi_ qi_ HBi HZi HAi HKi HB1 HQi Kwa
            cases on with
            | false =>
              have HV5 : Hid (RES = (⟨zj, sj, mj, fj, oj, bj⟩, 10)) := Lib.hid (by rw [HRN.out, if_neg (by simp)])
              clear HRN HR1
              obtain ⟨x0, x1, x2, x3, x4, x5⟩ : wa.cell? ⟨w.heap.size, 0, none⟩ = some (.slice (some a) n0 n0) ∧ wa.cell? ⟨w.heap.size, 1, none⟩ = some (.int .i64 sj) ∧ wa.cell? ⟨w.heap.size, 2, none⟩ = some (.int .i64 mj) ∧ wa.cell? ⟨w.heap.size, 3, none⟩ = some (.int .i64 fj) ∧ wa.cell? ⟨w.heap.size, 4, none⟩ = some (.bool oj) ∧ wa.cell? ⟨w.heap.size, 5, none⟩ = some (.int .i64 bj) := ⟨Cwa.out.cell 0, Cwa.out.cell 1, Cwa.out.cell 2, Cwa.out.cell 3, Cwa.out.cell 4, Cwa.out.cell 5⟩
              have ba := B1a.out
              obtain ⟨g0, g1, g2, g3, g4, g5⟩ : wa.cell? ⟨w.heap.size + 1, 0, none⟩ = some (.slice none 0 0) ∧ wa.cell? ⟨w.heap.size + 1, 1, none⟩ = some (.int .i64 0) ∧ wa.cell? ⟨w.heap.size + 1, 2, none⟩ = some (.int .i64 0) ∧ wa.cell? ⟨w.heap.size + 1, 3, none⟩ = some (.int .i64 0) ∧ wa.cell? ⟨w.heap.size + 1, 4, none⟩ = some (.bool false) ∧ wa.cell? ⟨w.heap.size + 1, 5, none⟩ = some (.int .i64 0) := ⟨ba.cell 0, ba.cell 1, ba.cell 2, ba.cell 3, ba.cell 4, ba.cell 5⟩
              have l0 := ba.frozen 0
              have l1 := ba.frozen 1
              have l2 := ba.frozen 2
              have l3 := ba.frozen 3
              have l4 := ba.frozen 4
              have l5 := ba.frozen 5
              have c9 := ((((((ba.set 0 (.slice (some a) n0 n0)).set 1 (.int .i64 sj)).set 2 (.int .i64 mj)).set 3 (.int .i64 fj)).set 4 (.bool oj)).set 5 (.int .i64 bj))
              have q9 : Q w ((((((wa.setCell ⟨w.heap.size + 1, 0, none⟩ (.slice (some a) n0 n0)).setCell ⟨w.heap.size + 1, 1, none⟩ (.int .i64 sj)).setCell ⟨w.heap.size + 1, 2, none⟩ (.int .i64 mj)).setCell ⟨w.heap.size + 1, 3, none⟩ (.int .i64 fj)).setCell ⟨w.heap.size + 1, 4, none⟩ (.bool oj)).setCell ⟨w.heap.size + 1, 5, none⟩ (.int .i64 bj)) := (Q.set (Q.set (Q.set (Q.set (Q.set (Q.set Qwa.out (by omega) _) (by omega) _) (by omega) _) (by omega) _) (by omega) _) (by omega) _)
              have k9 : ∀ j, j ≠ w.heap.size + 1 → ((((((wa.setCell ⟨w.heap.size + 1, 0, none⟩ (.slice (some a) n0 n0)).setCell ⟨w.heap.size + 1, 1, none⟩ (.int .i64 sj)).setCell ⟨w.heap.size + 1, 2, none⟩ (.int .i64 mj)).setCell ⟨w.heap.size + 1, 3, none⟩ (.int .i64 fj)).setCell ⟨w.heap.size + 1, 4, none⟩ (.bool oj)).setCell ⟨w.heap.size + 1, 5, none⟩ (.int .i64 bj)).heap[j]? = wa.heap[j]? := fun j hne => (heap_set _ _ _ _ hne).trans ( (heap_set _ _ _ _ hne).trans ( (heap_set _ _ _ _ hne).trans ( (heap_set _ _ _ _ hne).trans ( (heap_set _ _ _ _ hne).trans ( heap_set _ _ _ _ hne)))))
              obtain ⟨w9, hw9⟩ : ∃ z, z = ((((((wa.setCell ⟨w.heap.size + 1, 0, none⟩ (.slice (some a) n0 n0)).setCell ⟨w.heap.size + 1, 1, none⟩ (.int .i64 sj)).setCell ⟨w.heap.size + 1, 2, none⟩ (.int .i64 mj)).setCell ⟨w.heap.size + 1, 3, none⟩ (.int .i64 fj)).setCell ⟨w.heap.size + 1, 4, none⟩ (.bool oj)).setCell ⟨w.heap.size + 1, 5, none⟩ (.int .i64 bj)) := ⟨_, rfl⟩
              rw [← hw9] at c9 q9 k9
              simp only [List.setIfInBounds_toArray, List.set_cons_zero, List.set_cons_succ] at c9
              have C9 := Lib.hid c9
              have Q9 := Lib.hid q9
              have K9 := Lib.hid k9
              clear c9 q9 k9
              go_wp2_with fail
              rw [← hw9]
              clear hw9
              obtain ⟨k0, k1, k2, k3, k4, k5⟩ : w9.cell? ⟨w.heap.size + 1, 0, none⟩ = some (.slice (some a) n0 n0) ∧ w9.cell? ⟨w.heap.size + 1, 1, none⟩ = some (.int .i64 sj) ∧ w9.cell? ⟨w.heap.size + 1, 2, none⟩ = some (.int .i64 mj) ∧ w9.cell? ⟨w.heap.size + 1, 3, none⟩ = some (.int .i64 fj) ∧ w9.cell? ⟨w.heap.size + 1, 4, none⟩ = some (.bool oj) ∧ w9.cell? ⟨w.heap.size + 1, 5, none⟩ = some (.int .i64 bj) := ⟨C9.out.cell 0, C9.out.cell 1, C9.out.cell 2, C9.out.cell 3, C9.out.cell 4, C9.out.cell 5⟩
              (try simp only [Exit.inBlock, Exit.then])
              refine bodyPost_ret (v := .tuple #[.agg #[.slice (some a) n0 n0, .int .i64 sj, .int .i64 mj, .int .i64 fj, .bool oj, .int .i64 bj], .int .i64 10]) ?_ rfl ?_
              · rw [results_cell_tmp rfl]
                go_simp
              · have hk : ∀ j, R ≤ j → w9.heap[j]? = wa.heap[j]? := fun j hj => K9.out j (by have := HR.out; omega)
                have := HFIN.out w9 xi vi (Bx.same HZa.out (hk R (Nat.le_refl _))) (HAa.out.keep (fun j hj _ => hk j (by omega)) hRs.out) HOi.out (fun j h1 h2 => by rw [hk j (by omega), HKa.out j h1 h2])
                exact DevC.of (n := 10) HV5.out (by rw [HZJ.out]; exact this) Q9.out
            | true =>
              have HV5 : Hid (RES = runD k F (i + 1) (steps - (i + 1)) ⟨zs.set k (F i xi), sj, mj, fj, oj, bj⟩) := Lib.hid (by
                have e1 : zj = zs.set k xi := HZJ.out
                rw [HRN.out, if_pos rfl, e1, HAW.out]
                unfold setZn
                simp only [List.set_set])
              clear HRN HR1
              have CS := Lib.hid (HS.out i k R s xi vi (P.set k (xi, vi)) a wa hlt HJi.out Qwa.out (by have := HR.out; omega) hRs.out hsa.out HA.out (by rw [List.getElem?_set_self (by omega)]) HZa.out HAa.out)
              have x0 := Cwa.out.cell 0
              simp only [List.getElem?_toArray, List.getElem?_cons_zero] at x0
              go_wp2_with fail
              go_at_fn g2
              refine (CS.out).mono ?_
              rintro e wc ⟨vj, rfl, zc, ac, kc⟩
              clear x0
              have ZC := Lib.hid zc
              have AC := Lib.hid ac
              have KC := Lib.hid kc
              clear zc ac kc
              go_wp2_with fail
              go_roundw
              case rel =>
                refine ⟨i + 1, F i xi, vj, sj, mj, fj, oj, bj, by omega, by go_num, HV5, Lib.hid (HJ1.out i xi hlt HJi.out).2, Lib.hid (HJ1.out i xi hlt HJi.out).1, HNJ, Lib.hid ?_, Lib.hid ?_, AC, Lib.hid ?_, Lib.hid ?_, Lib.hid ?_, Lib.hid ?_⟩
                · exact Cwa.out.same (KC.out.1.block _ (by have := HR.out; omega))
                · have := ZC.out; rw [List.set_set] at this; exact this
                · intro j h1 h2; rw [KC.out.2 j h1 h2]; exact HKa.out j h1 h2
                · exact B1a.out.same (KC.out.1.block _ (by have := HR.out; omega))
                · exact Below.trans Qwa.out (Below.mono KC.out.1 (by have := HR.out; omega))
                · exact Nat.le_trans hsa.out KC.out.1.size
              case measure => simp [intOf]; omega
          · obtain rfl : i = steps := by omega
            have hilt : ¬ (i : Int) < (i : Int) := by omega
            have HV5 : Hid (RES = (⟨zs.set k xi, si, mi, fi, oi, bi⟩, 0)) := Lib.hid (by rw [HR1.out, Nat.sub_self]; rfl)
            clear HR1
            obtain ⟨x0, x1, x2, x3, x4, x5⟩ : wr.cell? ⟨w.heap.size, 0, none⟩ = some (.slice (some a) n0 n0) ∧ wr.cell? ⟨w.heap.size, 1, none⟩ = some (.int .i64 si) ∧ wr.cell? ⟨w.heap.size, 2, none⟩ = some (.int .i64 mi) ∧ wr.cell? ⟨w.heap.size, 3, none⟩ = some (.int .i64 fi) ∧ wr.cell? ⟨w.heap.size, 4, none⟩ = some (.bool oi) ∧ wr.cell? ⟨w.heap.size, 5, none⟩ = some (.int .i64 bi) := ⟨HBi.out.cell 0, HBi.out.cell 1, HBi.out.cell 2, HBi.out.cell 3, HBi.out.cell 4, HBi.out.cell 5⟩
            have ba := HB1.out
            obtain ⟨g0, g1, g2, g3, g4, g5⟩ : wr.cell? ⟨w.heap.size + 1, 0, none⟩ = some (.slice none 0 0) ∧ wr.cell? ⟨w.heap.size + 1, 1, none⟩ = some (.int .i64 0) ∧ wr.cell? ⟨w.heap.size + 1, 2, none⟩ = some (.int .i64 0) ∧ wr.cell? ⟨w.heap.size + 1, 3, none⟩ = some (.int .i64 0) ∧ wr.cell? ⟨w.heap.size + 1, 4, none⟩ = some (.bool false) ∧ wr.cell? ⟨w.heap.size + 1, 5, none⟩ = some (.int .i64 0) := ⟨ba.cell 0, ba.cell 1, ba.cell 2, ba.cell 3, ba.cell 4, ba.cell 5⟩
            have l0 := ba.frozen 0
            have l1 := ba.frozen 1
            have l2 := ba.frozen 2
            have l3 := ba.frozen 3
            have l4 := ba.frozen 4
            have l5 := ba.frozen 5
            have c9 := ((((((ba.set 0 (.slice (some a) n0 n0)).set 1 (.int .i64 si)).set 2 (.int .i64 mi)).set 3 (.int .i64 fi)).set 4 (.bool oi)).set 5 (.int .i64 bi))
            have q9 : Q w ((((((wr.setCell ⟨w.heap.size + 1, 0, none⟩ (.slice (some a) n0 n0)).setCell ⟨w.heap.size + 1, 1, none⟩ (.int .i64 si)).setCell ⟨w.heap.size + 1, 2, none⟩ (.int .i64 mi)).setCell ⟨w.heap.size + 1, 3, none⟩ (.int .i64 fi)).setCell ⟨w.heap.size + 1, 4, none⟩ (.bool oi)).setCell ⟨w.heap.size + 1, 5, none⟩ (.int .i64 bi)) := (Q.set (Q.set (Q.set (Q.set (Q.set (Q.set HQi.out (by omega) _) (by omega) _) (by omega) _) (by omega) _) (by omega) _) (by omega) _)
            have k9 : ∀ j, j ≠ w.heap.size + 1 → ((((((wr.setCell ⟨w.heap.size + 1, 0, none⟩ (.slice (some a) n0 n0)).setCell ⟨w.heap.size + 1, 1, none⟩ (.int .i64 si)).setCell ⟨w.heap.size + 1, 2, none⟩ (.int .i64 mi)).setCell ⟨w.heap.size + 1, 3, none⟩ (.int .i64 fi)).setCell ⟨w.heap.size + 1, 4, none⟩ (.bool oi)).setCell ⟨w.heap.size + 1, 5, none⟩ (.int .i64 bi)).heap[j]? = wr.heap[j]? := fun j hne => (heap_set _ _ _ _ hne).trans ( (heap_set _ _ _ _ hne).trans ( (heap_set _ _ _ _ hne).trans ( (heap_set _ _ _ _ hne).trans ( (heap_set _ _ _ _ hne).trans ( heap_set _ _ _ _ hne)))))
            obtain ⟨w9, hw9⟩ : ∃ z, z = ((((((wr.setCell ⟨w.heap.size + 1, 0, none⟩ (.slice (some a) n0 n0)).setCell ⟨w.heap.size + 1, 1, none⟩ (.int .i64 si)).setCell ⟨w.heap.size + 1, 2, none⟩ (.int .i64 mi)).setCell ⟨w.heap.size + 1, 3, none⟩ (.int .i64 fi)).setCell ⟨w.heap.size + 1, 4, none⟩ (.bool oi)).setCell ⟨w.heap.size + 1, 5, none⟩ (.int .i64 bi)) := ⟨_, rfl⟩
            rw [← hw9] at c9 q9 k9
            simp only [List.setIfInBounds_toArray, List.set_cons_zero, List.set_cons_succ] at c9
            have C9 := Lib.hid c9
            have Q9 := Lib.hid q9
            have K9 := Lib.hid k9
            clear c9 q9 k9
            go_wp2_with fail
            rw [← hw9]
            clear hw9
            obtain ⟨k0, k1, k2, k3, k4, k5⟩ : w9.cell? ⟨w.heap.size + 1, 0, none⟩ = some (.slice (some a) n0 n0) ∧ w9.cell? ⟨w.heap.size + 1, 1, none⟩ = some (.int .i64 si) ∧ w9.cell? ⟨w.heap.size + 1, 2, none⟩ = some (.int .i64 mi) ∧ w9.cell? ⟨w.heap.size + 1, 3, none⟩ = some (.int .i64 fi) ∧ w9.cell? ⟨w.heap.size + 1, 4, none⟩ = some (.bool oi) ∧ w9.cell? ⟨w.heap.size + 1, 5, none⟩ = some (.int .i64 bi) := ⟨C9.out.cell 0, C9.out.cell 1, C9.out.cell 2, C9.out.cell 3, C9.out.cell 4, C9.out.cell 5⟩
            (try simp only [Exit.inBlock, Exit.then])
            refine bodyPost_ret (v := .tuple #[.agg #[.slice (some a) n0 n0, .int .i64 si, .int .i64 mi, .int .i64 fi, .bool oi, .int .i64 bi], .int .i64 0]) ?_ rfl ?_
            · rw [results_cell_tmp rfl]
              go_simp
            · have hk : ∀ j, R ≤ j → w9.heap[j]? = wr.heap[j]? := fun j hj => K9.out j (by have := HR.out; omega)
              have := HFIN.out w9 xi vi (Bx.same HZi.out (hk R (Nat.le_refl _))) (HAi.out.keep (fun j hj _ => hk j (by omega)) hRs.out) HOi.out (fun j h1 h2 => by rw [hk j (by omega), HKi.out j h1 h2])
              exact DevC.of (n := 0) HV5.out this Q9.out
    · have hz' : decide (hasZ ⟨zs, size, mo, fuel, off, bad⟩ z) = false := by simpa using hz
      rw [hz'] at CH
      have HV4 : Hid (RES = (⟨zr, sr, mr, fr, or_, br⟩, 12)) := Lib.hid (by rw [HV.out, if_neg (by simp), if_neg hz])
      clear hz hz' HV HT2 HJ02 HZ0
      go_wp2_with fail
      refine (CH.out _ _).mono ?_
      rintro e w8 ⟨rfl, d8⟩
      clear x0 x1 x2 x3 x4 x5
      obtain ⟨x0, x1, x2, x3, x4, x5⟩ : w8.cell? ⟨w.heap.size, 0, none⟩ = some (.slice (some a) n0 n0) ∧ w8.cell? ⟨w.heap.size, 1, none⟩ = some (.int .i64 size) ∧ w8.cell? ⟨w.heap.size, 2, none⟩ = some (.int .i64 mo) ∧ w8.cell? ⟨w.heap.size, 3, none⟩ = some (.int .i64 fuel) ∧ w8.cell? ⟨w.heap.size, 4, none⟩ = some (.bool off) ∧ w8.cell? ⟨w.heap.size, 5, none⟩ = some (.int .i64 bad) := ⟨(Cw7.out.on d8).cell 0, (Cw7.out.on d8).cell 1, (Cw7.out.on d8).cell 2, (Cw7.out.on d8).cell 3, (Cw7.out.on d8).cell 4, (Cw7.out.on d8).cell 5⟩
      have D8 := Lib.hid d8
      clear d8
      go_wp2_with fail
      refine (CR.out _ _ _).mono ?_
      rintro e w8b ⟨rfl, d8b⟩
      clear x0 x1 x2 x3 x4 x5
      have b8 := B1.out.on (D8.out.trans d8b)
      have q8 := Qw7.out.trans (D8.out.trans d8b)
      have qk := D8.out.trans d8b
      obtain ⟨g0, g1, g2, g3, g4, g5⟩ : w8b.cell? ⟨w.heap.size + 1, 0, none⟩ = some (.slice none 0 0) ∧ w8b.cell? ⟨w.heap.size + 1, 1, none⟩ = some (.int .i64 0) ∧ w8b.cell? ⟨w.heap.size + 1, 2, none⟩ = some (.int .i64 0) ∧ w8b.cell? ⟨w.heap.size + 1, 3, none⟩ = some (.int .i64 0) ∧ w8b.cell? ⟨w.heap.size + 1, 4, none⟩ = some (.bool false) ∧ w8b.cell? ⟨w.heap.size + 1, 5, none⟩ = some (.int .i64 0) := ⟨b8.cell 0, b8.cell 1, b8.cell 2, b8.cell 3, b8.cell 4, b8.cell 5⟩
      have l0 := b8.frozen 0
      have l1 := b8.frozen 1
      have l2 := b8.frozen 2
      have l3 := b8.frozen 3
      have l4 := b8.frozen 4
      have l5 := b8.frozen 5
      have c9 := ((((((b8.set 0 (.slice (some a) n0 n0)).set 1 (.int .i64 sr)).set 2 (.int .i64 mr)).set 3 (.int .i64 fr)).set 4 (.bool or_)).set 5 (.int .i64 br))
      have q9 : Q w ((((((w8b.setCell ⟨w.heap.size + 1, 0, none⟩ (.slice (some a) n0 n0)).setCell ⟨w.heap.size + 1, 1, none⟩ (.int .i64 sr)).setCell ⟨w.heap.size + 1, 2, none⟩ (.int .i64 mr)).setCell ⟨w.heap.size + 1, 3, none⟩ (.int .i64 fr)).setCell ⟨w.heap.size + 1, 4, none⟩ (.bool or_)).setCell ⟨w.heap.size + 1, 5, none⟩ (.int .i64 br)) := (Q.set (Q.set (Q.set (Q.set (Q.set (Q.set q8 (by omega) _) (by omega) _) (by omega) _) (by omega) _) (by omega) _) (by omega) _)
      have k9 : ∀ j, j ≠ w.heap.size + 1 → ((((((w8b.setCell ⟨w.heap.size + 1, 0, none⟩ (.slice (some a) n0 n0)).setCell ⟨w.heap.size + 1, 1, none⟩ (.int .i64 sr)).setCell ⟨w.heap.size + 1, 2, none⟩ (.int .i64 mr)).setCell ⟨w.heap.size + 1, 3, none⟩ (.int .i64 fr)).setCell ⟨w.heap.size + 1, 4, none⟩ (.bool or_)).setCell ⟨w.heap.size + 1, 5, none⟩ (.int .i64 br)).heap[j]? = w8b.heap[j]? := fun j hne => (heap_set _ _ _ _ hne).trans ( (heap_set _ _ _ _ hne).trans ( (heap_set _ _ _ _ hne).trans ( (heap_set _ _ _ _ hne).trans ( (heap_set _ _ _ _ hne).trans ( heap_set _ _ _ _ hne)))))
      obtain ⟨w9, hw9⟩ : ∃ z, z = ((((((w8b.setCell ⟨w.heap.size + 1, 0, none⟩ (.slice (some a) n0 n0)).setCell ⟨w.heap.size + 1, 1, none⟩ (.int .i64 sr)).setCell ⟨w.heap.size + 1, 2, none⟩ (.int .i64 mr)).setCell ⟨w.heap.size + 1, 3, none⟩ (.int .i64 fr)).setCell ⟨w.heap.size + 1, 4, none⟩ (.bool or_)).setCell ⟨w.heap.size + 1, 5, none⟩ (.int .i64 br)) := ⟨_, rfl⟩
      rw [← hw9] at c9 q9 k9
      simp only [List.setIfInBounds_toArray, List.set_cons_zero, List.set_cons_succ] at c9
      have C9 := Lib.hid c9
      have Q9 := Lib.hid q9
      have K9 := Lib.hid k9
      clear c9 q9 k9
      go_wp2_with fail
      rw [← hw9]
      clear hw9
      obtain ⟨k0, k1, k2, k3, k4, k5⟩ : w9.cell? ⟨w.heap.size + 1, 0, none⟩ = some (.slice (some a) n0 n0) ∧ w9.cell? ⟨w.heap.size + 1, 1, none⟩ = some (.int .i64 sr) ∧ w9.cell? ⟨w.heap.size + 1, 2, none⟩ = some (.int .i64 mr) ∧ w9.cell? ⟨w.heap.size + 1, 3, none⟩ = some (.int .i64 fr) ∧ w9.cell? ⟨w.heap.size + 1, 4, none⟩ = some (.bool or_) ∧ w9.cell? ⟨w.heap.size + 1, 5, none⟩ = some (.int .i64 br) := ⟨C9.out.cell 0, C9.out.cell 1, C9.out.cell 2, C9.out.cell 3, C9.out.cell 4, C9.out.cell 5⟩
      (try simp only [Exit.inBlock, Exit.then])
      refine bodyPost_ret (v := .tuple #[.agg #[.slice (some a) n0 n0, .int .i64 sr, .int .i64 mr, .int .i64 fr, .bool or_, .int .i64 br], .int .i64 12]) ?_ rfl ?_
      · rw [results_cell_tmp rfl]
        go_simp
      · have hk : ∀ j, R ≤ j → w9.heap[j]? = w8b.heap[j]? := fun j hj => K9.out j (by have := HR.out; omega)
        have hf9 : Fr w9 R P P.length := fun i p hi hp => by
          obtain ⟨g, t, r, f⟩ := HF7.out i p hi hp
          exact ⟨g, ⟨t.1, (t.2.on qk).same (hk g (by omega))⟩, r, f⟩
        have := fr_zns (w := w9) (Bx.same (Bx.on HZ7.out qk) (hk R (Nat.le_refl _))) hf9 HOK.out HP.out
        rw [← HN0.out, ← HA.out] at this
        exact DevC.of (n := 12) HV4.out (by rw [HRZ.out]; exact this) Q9.out
end Go.Proofs.Yteoondmakdghhaa

namespace Go.Proofs.Yteoondmakdghhaa
set_option maxRecDepth 100000
open Go.ChangeShapes Go.WideShapes Go.ChangeAt Go.RowKit
set_option linter.unusedVariables false
set_option linter.unusedSimpArgs false
set_option maxRecDepth 100000
/-- A text behind a zone's blocks, while steps are done. -/
theorem run_snoc_apt (w : World) (R s g : Nat) (ty : TypeId) (v : Value) (l : List ByteArray) (t : ByteArray) {c : Nat} (h : AptT R s w v l) (hg : w.cell? ⟨g, 0, none⟩ = some (.string t)) (hs : s ≤ w.heap.size) (hl : l.length ≤ 1000000) :
    ∃ v' w', (Builtin.append_ #[31, 31] ty #[v, .slice (some ⟨g, 0, none⟩) 1 c]).run Try.prog w = .ok v' w' ∧ OwnT s w' v' (l ++ [t]) ∧ Below s w w' := by
  obtain ⟨i0, hi0, hz0, hz1, hz2⟩ := info_parts info_str
  have hnews : ∀ j u, [Value.string t][j]? = some u → w.cell? ((⟨g, 0, none⟩ : Addr).add j) = some u := by
    intro j u hj
    match j, hj with
    | 0, hj => simp at hj; subst hj; rw [add_flat]; exact hg
  have hone : ∀ u ∈ [Value.string t], u.oneCell' = true := by intro u hu; simp at hu; subst hu; rfl
  rcases h with ⟨g0, ⟨rfl, tb⟩, -, hg0⟩ | h
  · obtain ⟨v', w', h1, h2, h3⟩ := run_append_arg_grows (P := Try.prog) w 31 ty 9 i0 (.string ⟨#[]⟩) 1 16 Try.underlying31 hi0 hz0 hz1 hz2 rfl (by decide) ⟨g0, 0, none⟩ l.length l.length (l.map Value.string) (by simp) (fun j u hj => by
      rw [add_flat, tb.cell]; simpa using hj) ⟨g, 0, none⟩ 1 c [.string t] (by simp) hnews (by omega) (by unfold maxLen; omega) (by omega)
    refine ⟨v', w', h1, ?_, (Below.refl s w).grown h3 hs (by simp)⟩
    have : OwnT w.heap.size w' v' (l ++ [t]) := by unfold OwnT; rw [List.length_append, List.map_append]; exact h2
    exact this.low hs
  · obtain ⟨v', w', h1, h2, h3, -⟩ := run_append_own (P := Try.prog) w s 31 ty 9 i0 (.string ⟨#[]⟩) 1 16 Try.underlying31 hi0 hz0 hz1 hz2 rfl (by decide) v l.length (l.map Value.string) h ⟨g, 0, none⟩ 1 c [.string t] (by simp) hnews hone (by unfold maxLen; omega) (by omega) hs
    refine ⟨v', w', h1, ?_, (Below.refl s w).grown h3 hs (fun k e => (World.ownsRow.lt h k e).1)⟩
    unfold OwnT
    rw [List.length_append, List.map_append]
    exact h2
theorem step_snoc_apt (w : World) {ops : Array Oper} {o : Oper} {a : Act} {K : Act → World → Prop} {Q' : Exit → Act → World → Prop} {E : Prop} (hgd : o.guard = none) (p x : Operand)
    (ho : o.op = .call { callee := .builtin .append, args := #[p, x], argTypes := #[31, 31] })
    (R s g c : Nat) (v : Value) (l : List ByteArray) (t : ByteArray) (hv : a.eval p = v) (hx : a.eval x = .slice (some ⟨g, 0, none⟩) 1 c) (h : AptT R s w v l) (hg : w.cell? ⟨g, 0, none⟩ = some (.string t)) (hs : s ≤ w.heap.size) (hl : l.length ≤ 1000000)
    (k : ∀ A n cc w', Hid (OwnT s w' (.slice A n cc) (l ++ [t])) → Hid (Below s w w') → K (a.put o.dst (.slice A n cc)) w') :
    if Region.wanted o (yielded ops a.tmps) = true then Oper.wp Try.prog o a w K Q' else E := by
  have hw : Region.wanted o (yielded ops a.tmps) = true := by simp [Region.wanted, hgd]
  rw [if_pos hw]
  obtain ⟨v', w', h1, h2, h3⟩ := run_snoc_apt w R s g o.type v l t (c := c) h hg hs hl
  obtain ⟨A, cc, e⟩ := h2.form
  subst e
  unfold Oper.wp execOp
  simp only [ho, resolve, invoke, builtin, Sem.run_bind, Sem.run_pure, Result.andThen_ok, List.map_toArray, List.map_cons, List.map_nil, hv, hx, h1]
  exact k _ _ _ _ (Lib.hid h2) (Lib.hid h3)
/-- What a step leaves. -/
def StepC (P : List (Zn × Value)) (k : Nat) (y : Zn) (R s : Nat) (b : World) (e : Ending) (w' : World) : Prop := ∃ v', e = .returned (.tuple #[]) ∧ ZB w' R (P.set k (y, v')) ∧ AptT R s w' v' y.b ∧ StepK R s b w'
theorem StepK.put2 {w : World} {a : Addr} {R s : Nat} (ha : a = ⟨R, 0, none⟩) (k j : Nat) (u : Value) : StepK R s w (w.setCell ⟨(a.add (k * 3)).block, (a.add (k * 3)).off + j, none⟩ u) := by
  subst ha
  rw [add_flat]
  exact ⟨(Below.refl R w).setCell (p := ⟨R, k * 3 + j, none⟩) (Nat.le_refl _) u, fun i h1 h2 => heap_set w R _ u (by omega)⟩
end Go.Proofs.Yteoondmakdghhaa

