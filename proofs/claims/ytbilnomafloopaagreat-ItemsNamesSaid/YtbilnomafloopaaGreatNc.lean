/-
  May an upload be? Contracts of the program's may and the document's One. May uploads be? Contracts of the program's Check and the document's May. Boxes as whole blocks. Contract of the document's Check. Contracts of the document's Drop and Find. Contracts of the program's may, of its closures, of slices.IndexFunc and place. Contracts of slices.IndexFunc, slices.ContainsFunc and place. Contract of the program's Check. Contracts of the program's told, Get and Find, and of the document's Get. Contract of the document's Get. Contracts of the program's Get and Find, and of the document's Get. append of versions to a row of the call's own; contracts of slices.Grow, slices.Concat.
-/
import Derived.Test.YtbilnomafloopaaGreatNb
import Derived.Deep.RegionHeld3
import Derived.Maps.OwnIn
import Derived.Test.YtbilnomafloopaaGreatNa
import Derived.Shelf.Abstract
import Derived.Lib.AppendZerosOnto
import Derived.Lib.SliceRun
import Derived.Laws.AppendOwnNone
namespace Go.Proofs.YtbilnomafloopaaGreat
set_option maxRecDepth 100000
open Go.ChangeShapes Go.WideShapes Go.ChangeAt Go.RowKit
set_option linter.unusedVariables false
set_option linter.unusedSimpArgs false
/-- R tells whether p. -/
def Chk (p : Prop) (R : Bool) : Prop := (R = true ∧ p) ∨ (R = false ∧ ¬ p)
theorem Chk.yes {p : Prop} {R : Bool} (h : Chk p R) (k : p) : R = true := by
  rcases h with ⟨h, -⟩ | ⟨-, h⟩
  · exact h
  · exact absurd k h
theorem Chk.no {p : Prop} {R : Bool} (h : Chk p R) (k : ¬ p) : R = false := by
  rcases h with ⟨-, h⟩ | ⟨h, -⟩
  · exact absurd h k
  · exact h
theorem chk_ex (p : Prop) : ∃ R, Chk p R := by
  by_cases h : p
  · exact ⟨true, .inl ⟨rfl, h⟩⟩
  · exact ⟨false, .inr ⟨rfl, h⟩⟩
/-- Part i may be, and is above the one ahead of it. -/
def stepU (L : List Prt) (i : Nat) : Prop := ∀ h : i < L.length, mayP L[i] = true ∧ ∀ j (hj : j + 1 = i), (L[j]'(by omega)).n < L[i].n
def okL (L : List Prt) : Prop := ∀ i, stepU L i
def okUp (u : Upl) : Prop := mayB u.id u.key = true ∧ u.L.length ≤ 30 ∧ okL u.L
/-- No more than is looked at. -/
def smU (u : Upl) : Prop := u.key.size ≤ 1000 ∧ u.L.length ≤ 1000 ∧ ∀ x ∈ u.L, x.data.size ≤ 5000
def lastN (L : List Prt) (i : Nat) (x : Int) : Prop := (i = 0 ∧ x = 0) ∨ ∃ j, ∃ h : j < L.length, j + 1 = i ∧ x = L[j].n
theorem stepU_more {L : List Prt} {i : Nat} (h : ∀ j, j < i → stepU L j) (k : stepU L i) : ∀ j, j < i + 1 → stepU L j := fun j hj => by
  by_cases e : j = i
  · subst e; exact k
  · exact h j (by omega)
theorem stepU_end {L : List Prt} (h : ∀ j, j < L.length → stepU L j) : okL L := fun i hi => h i hi hi
theorem lastN_next {L : List Prt} {i : Nat} (h : i < L.length) : lastN L (i + 1) L[i].n := .inr ⟨i, h, rfl, rfl⟩
theorem lastN_step {L : List Prt} {i : Nat} {x : Int} (h : i < L.length) (hx : lastN L i x) (hm : mayP L[i] = true) (hn : ¬ L[i].n ≤ x) : stepU L i := fun _ => by
  refine ⟨hm, fun j hj => ?_⟩
  rcases hx with ⟨h0, -⟩ | ⟨j', hj', e, rfl⟩
  · omega
  · obtain rfl : j' = j := by omega
    omega
theorem lastN_bad {L : List Prt} {i : Nat} {x : Int} (h : i < L.length) (hx : lastN L i x) (hm : mayP L[i] = true) (hn : L[i].n ≤ x) : ¬ stepU L i := fun s => by
  obtain ⟨-, s2⟩ := s h
  rcases hx with ⟨h0, rfl⟩ | ⟨j', hj', e, rfl⟩
  · obtain ⟨m1, -⟩ := mayP_iff.1 hm
    omega
  · have := s2 j' e
    omega
/-- The box of an upload, behind calls. -/
theorem boxU_of {w w1 : World} {i : Int} {k : ByteArray} {u : Value} (q : Q (w.alloc (.cells #[.int .u64 i, .string k, u] 66)) w1) : w1.cell? ⟨w.heap.size, 0, none⟩ = some (.int .u64 i) ∧ w1.cell? ⟨w.heap.size, 1, none⟩ = some (.string k) ∧ w1.cell? ⟨w.heap.size, 2, none⟩ = some u := by
  have c : ∀ j, w1.cell? ⟨w.heap.size, j, none⟩ = (w.alloc (.cells #[.int .u64 i, .string k, u] 66)).cell? ⟨w.heap.size, j, none⟩ := fun j => Below.cell q (p := ⟨w.heap.size, j, none⟩) (by simp)
  refine ⟨(c 0).trans ?_, (c 1).trans ?_, (c 2).trans ?_⟩ <;> simp [go_sem]
/-- The box of a part, behind calls. -/
theorem boxP_of {w w1 : World} {i : Int} {k : ByteArray} (q : Q (w.alloc (.cells #[.int .i64 i, .string k] 88)) w1) : w1.cell? ⟨w.heap.size, 0, none⟩ = some (.int .i64 i) ∧ w1.cell? ⟨w.heap.size, 1, none⟩ = some (.string k) := by
  have c : ∀ j, w1.cell? ⟨w.heap.size, j, none⟩ = (w.alloc (.cells #[.int .i64 i, .string k] 88)).cell? ⟨w.heap.size, j, none⟩ := fun j => Below.cell q (p := ⟨w.heap.size, j, none⟩) (by simp)
  refine ⟨(c 0).trans ?_, (c 1).trans ?_⟩ <;> simp [go_sem]
set_option maxHeartbeats 4000000 in
theorem mayU_any (u : Upl) (v : Value) (w : World) (R : Bool) (hR : Chk (okUp u) R) (hs : smU u) (ht : Prts w w.heap.size v u.L) :
    Calls Tryz.prog 157 #[upl u v] w fun e w' => e = .returned (.bool R) ∧ Q w w' := by
  obtain ⟨id, key, L⟩ := u
  simp only at ht
  have HT := Lib.hid ht
  have HR : Hid (Chk (mayB id key = true ∧ L.length ≤ 30 ∧ okL L) R) := Lib.hid hR
  obtain ⟨A, c, rfl⟩ := ht.form
  have hk : key.size ≤ 1000 := hs.1
  have hl : L.length ≤ 1000 := hs.2.1
  have C := Lib.hid (fun d => mayBegin_any id key d hk)
  rw [upl]
  simp only
  clear ht hR hs
  cases hb : mayB id key with
  | false =>
    rw [hb] at C
    have HV := Lib.hid (HR.out.no (fun o => by have := o.1; rw [hb] at this; simp at this))
    clear hb
    go_enter Tryz.func157, Tryz.ntmps157
    go_wp2_with fail
    refine (C.out _).mono ?_
    rintro e w1 ⟨rfl, q1⟩
    go_wp2
    go_ret
    exact ⟨ret_bool (by rw [HV.out]), ((Q.refl w).alloc _).trans q1⟩
  | true =>
    rw [hb] at C
    have HB := Lib.hid hb
    clear hb
    by_cases h30 : L.length ≤ 30
    · have h30' : ¬ (30 : Int) < (L.length : Int) := by omega
      have q00 := (Q.refl w).alloc (.cells #[.int .u64 (id : Nat), .string key, .slice A L.length c] 66)
      go_enter Tryz.func157, Tryz.ntmps157
      go_wp2_with fail
      refine (C.out _).mono ?_
      rintro e w1 ⟨rfl, q1⟩
      obtain ⟨b0, b1, b2⟩ := boxU_of q1
      have q2 := q00.trans q1
      clear q1 q00
      go_wp2_with fail
      clear b0 b1 b2
      go_loopw [3, 5, 21] (fun LA _ I wr => ∃ i : Nat, ∃ x : Int, i ≤ L.length ∧ I = .int .i64 i ∧ LA = .int .i64 x ∧ Hid (lastN L i x) ∧ Q w wr ∧ Hid (∀ j, j < i → stepU L j)) (fun _ _ I _ => L.length - (intOf I).toNat)
      case atStart => exact ⟨0, 0, Nat.zero_le _, rfl, rfl, Lib.hid (.inl ⟨rfl, rfl⟩), q2, Lib.hid (fun j h => by omega)⟩
      case round =>
        obtain ⟨i, x, hil, rfl, rfl, HL, q, HK⟩ := hrel
        clear q2
        by_cases hlt : i < L.length
        · obtain ⟨a, c', hv, ha, -, hat⟩ := HT.out.pick i hlt
          injection hv with e1 e2 e3
          subst e1 e3
          obtain ⟨c0, c1⟩ := hat _ q
          clear hat e2
          have hilt : (i : Int) < (L.length : Int) := by omega
          have NO : ¬ stepU L i → R = false := fun h => HR.out.no fun o => h (o.2.2 i)
          have YES : mayP L[i] = true → ¬ L[i].n ≤ x → ∀ j, j < i + 1 → stepU L j := fun h1 h2 => stepU_more HK.out (lastN_step hlt HL.out h1 h2)
          have NO1 : mayP L[i] = false → R = false := fun h => NO fun s => by have := (s hlt).1; rw [h] at this; simp at this
          have NO2 : mayP L[i] = true → L[i].n ≤ x → R = false := fun h1 h2 => NO (lastN_bad hlt HL.out h1 h2)
          have NX : lastN L (i + 1) L[i].n := lastN_next hlt
          obtain ⟨p, hp⟩ : ∃ p, p = L[i] := ⟨_, rfl⟩
          rw [← hp] at c0 c1 YES NO1 NO2 NX
          have NX := Lib.hid NX
          clear hp NO
          have M := Lib.hid fun b => mayLay_any p b
          have q3 := q.alloc (.cells #[.int .i64 p.n, .string p.data] 88)
          rw [prt] at M
          cases hm : mayP p with
          | false =>
            have HV := Lib.hid (NO1 hm)
            rw [hm] at M
            clear YES NO1 NO2 hm
            go_wp2_with fail
            refine (M.out _).mono ?_
            rintro e w4 ⟨rfl, q4⟩
            go_wp2
            go_ret
            exact ⟨ret_bool (by rw [HV.out]), q3.trans q4⟩
          | true =>
            rw [hm] at M
            by_cases hle : p.n ≤ x
            · have HV := Lib.hid (NO2 hm hle)
              clear YES NO1 NO2 hm
              go_wp2_with fail
              refine (M.out _).mono ?_
              rintro e w4 ⟨rfl, q4⟩
              obtain ⟨d0, d1⟩ := boxP_of q4
              go_wp2
              go_ret
              exact ⟨ret_bool (by rw [HV.out]), q3.trans q4⟩
            · have HK2 := Lib.hid (YES hm hle)
              clear YES NO1 NO2 hm
              go_wp2_with fail
              refine (M.out _).mono ?_
              rintro e w4 ⟨rfl, q4⟩
              obtain ⟨d0, d1⟩ := boxP_of q4
              go_wp2
              go_roundw
              case rel => exact ⟨i + 1, p.n, by omega, by go_num, rfl, NX, q3.trans q4, HK2⟩
              case measure => simp [intOf]; omega
        · have HV := Lib.hid (HR.out.yes ⟨HB.out, h30, stepU_end fun j h => HK.out j (by omega)⟩)
          have hilt : ¬ (i : Int) < (L.length : Int) := by omega
          go_wp2
          go_ret
          exact ⟨ret_bool (by rw [HV.out]), q⟩
    · have h30' : (30 : Int) < (L.length : Int) := by omega
      have HV := Lib.hid (HR.out.no (fun o => h30 o.2.1))
      go_enter Tryz.func157, Tryz.ntmps157
      go_wp2_with fail
      refine (C.out _).mono ?_
      rintro e w1 ⟨rfl, q1⟩
      obtain ⟨b0, b1, b2⟩ := boxU_of q1
      go_wp2
      go_ret
      exact ⟨ret_bool (by rw [HV.out]), ((Q.refl w).alloc _).trans q1⟩
end Go.Proofs.YtbilnomafloopaaGreat

namespace Go.Proofs.YtbilnomafloopaaGreat
set_option maxRecDepth 100000
open Go.ChangeShapes Go.WideShapes Go.ChangeAt Go.RowKit
set_option linter.unusedVariables false
set_option linter.unusedSimpArgs false
/-- Upload i may be, and is above the one ahead of it. -/
def stepL (l : List Upl) (i : Nat) : Prop := ∀ h : i < l.length, okUp l[i] ∧ ∀ j (hj : j + 1 = i), (l[j]'(by omega)).id < l[i].id
def okUps (l : List Upl) : Prop := l.length ≤ 10 ∧ ∀ i, stepL l i
def smL (l : List Upl) : Prop := l.length ≤ 1000 ∧ ∀ x ∈ l, smU x
def lastI (l : List Upl) (i : Nat) (x : Nat) : Prop := (i = 0 ∧ x = 0) ∨ ∃ j, ∃ h : j < l.length, j + 1 = i ∧ x = l[j].id
theorem stepL_more {l : List Upl} {i : Nat} (h : ∀ j, j < i → stepL l j) (k : stepL l i) : ∀ j, j < i + 1 → stepL l j := fun j hj => by
  by_cases e : j = i
  · subst e; exact k
  · exact h j (by omega)
theorem stepL_end {l : List Upl} (h : ∀ j, j < l.length → stepL l j) : ∀ i, stepL l i := fun i hi => h i hi hi
theorem lastI_next {l : List Upl} {i : Nat} (h : i < l.length) : lastI l (i + 1) l[i].id := .inr ⟨i, h, rfl, rfl⟩
theorem okUp_id {u : Upl} (h : okUp u) : 1 ≤ u.id ∧ u.id ≤ 281474976710655 := by
  have := h.1
  rw [mayB, Bool.and_eq_true] at this
  exact mayN_iff.1 this.1
theorem lastI_step {l : List Upl} {i : Nat} {x : Nat} (h : i < l.length) (hx : lastI l i x) (hm : okUp l[i]) (hn : ¬ l[i].id ≤ x) : stepL l i := fun _ => by
  refine ⟨hm, fun j hj => ?_⟩
  rcases hx with ⟨h0, -⟩ | ⟨j', hj', e, rfl⟩
  · omega
  · obtain rfl : j' = j := by omega
    omega
theorem lastI_bad {l : List Upl} {i : Nat} {x : Nat} (h : i < l.length) (hx : lastI l i x) (hm : okUp l[i]) (hn : l[i].id ≤ x) : ¬ stepL l i := fun s => by
  obtain ⟨-, s2⟩ := s h
  rcases hx with ⟨h0, rfl⟩ | ⟨j', hj', e, rfl⟩
  · have := (okUp_id hm).1
    omega
  · have := s2 j' e
    omega
def chkEU (R : Bool) : Int := if R then 0 else 1
set_option maxHeartbeats 4000000 in
theorem checkU_any (l : List Upl) (v : Value) (w : World) (R : Bool) (hR : Chk (okUps l) R) (hs : smL l) (ht : Upls w w.heap.size v l) :
    Calls Tryz.prog 102 #[v] w fun e w' => e = .returned (.int .i64 (chkEU R)) ∧ Q w w' := by
  have HT := Lib.hid ht
  have HR := Lib.hid hR
  have HS := Lib.hid hs
  have hl := hs.1
  obtain ⟨A, c, rfl⟩ := ht.form
  clear ht hR hs
  by_cases h10 : l.length ≤ 10
  · have h10' : ¬ (10 : Int) < (l.length : Int) := by omega
    go_enter Tryz.func102, Tryz.ntmps102
    go_wp2_with fail
    go_loopw [3, 5, 11] (fun LA _ I wr => ∃ i x : Nat, i ≤ l.length ∧ I = .int .i64 i ∧ LA = .int .u64 (x : Nat) ∧ Hid (lastI l i x) ∧ Q w wr ∧ Hid (∀ j, j < i → stepL l j)) (fun _ _ I _ => l.length - (intOf I).toNat)
    case atStart => exact ⟨0, 0, Nat.zero_le _, rfl, rfl, Lib.hid (.inl ⟨rfl, rfl⟩), Q.refl _, Lib.hid (fun j h => by omega)⟩
    case round =>
      obtain ⟨i, x, hil, rfl, rfl, HL, q, HK⟩ := hrel
      by_cases hlt : i < l.length
      · obtain ⟨a, c', hv, ha, A2, c2, hps, hat⟩ := HT.out.pick i hlt
        injection hv with e1 e2 e3
        subst e1 e3
        obtain ⟨c0, c1, d2⟩ := hat _ q
        clear hat e2
        have hilt : (i : Int) < (l.length : Int) := by omega
        have NO1 : ¬ okUp l[i] → R = false := fun h => HR.out.no fun o => h (o.2 i hlt).1
        have NO2 : okUp l[i] → l[i].id ≤ x → R = false := fun h1 h2 => HR.out.no fun o => lastI_bad hlt HL.out h1 h2 (o.2 i)
        have YES : okUp l[i] → ¬ l[i].id ≤ x → ∀ j, j < i + 1 → stepL l j := fun h1 h2 => stepL_more HK.out (lastI_step hlt HL.out h1 h2)
        have NX : lastI l (i + 1) l[i].id := lastI_next hlt
        have hsm := HS.out.2 _ (List.getElem_mem hlt)
        obtain ⟨p, hp⟩ : ∃ p, p = l[i] := ⟨_, rfl⟩
        rw [← hp] at c0 c1 d2 YES NO1 NO2 NX hsm hps
        have NX := Lib.hid NX
        clear hp
        obtain ⟨C, hC⟩ := chk_ex (okUp p)
        have M : Hid (∀ b, Q w b → Calls Tryz.prog 157 #[upl p (.slice A2 p.L.length c2)] b fun e w' => e = .returned (.bool C) ∧ Q b w') := Lib.hid fun b qb => mayU_any p _ b C hC hsm (hps.on qb)
        rw [upl] at M
        obtain ⟨n, hn⟩ : ∃ n, p.L.length = n := ⟨_, rfl⟩
        rw [hn] at d2 M
        have q3 := q.alloc (.cells #[.int .u64 (p.id : Nat), .string p.key, .slice A2 n c2] 66)
        clear hn hps hsm
        rcases hC with ⟨rfl, hm⟩ | ⟨rfl, hm⟩
        · by_cases hle : p.id ≤ x
          · have HV := Lib.hid (NO2 hm hle)
            have hle' : (p.id : Int) ≤ (x : Int) := by omega
            clear YES NO1 NO2 hm
            go_wp2_with fail
            refine (M.out _ q3).mono ?_
            rintro e w4 ⟨rfl, q4⟩
            obtain ⟨d0, d1, d2⟩ := boxU_of q4
            go_wp2
            go_ret
            exact ⟨by rw [HV.out]; rfl, q3.trans q4⟩
          · have HK2 := Lib.hid (YES hm hle)
            have hle' : ¬ (p.id : Int) ≤ (x : Int) := by omega
            clear YES NO1 NO2 hm
            go_wp2_with fail
            refine (M.out _ q3).mono ?_
            rintro e w4 ⟨rfl, q4⟩
            obtain ⟨d0, d1, d2⟩ := boxU_of q4
            go_wp2
            go_roundw
            case rel => exact ⟨i + 1, p.id, by omega, by go_num, rfl, NX, q3.trans q4, HK2⟩
            case measure => simp [intOf]; omega
        · have HV := Lib.hid (NO1 hm)
          clear YES NO1 NO2 hm
          go_wp2_with fail
          refine (M.out _ q3).mono ?_
          rintro e w4 ⟨rfl, q4⟩
          go_wp2
          go_ret
          exact ⟨by rw [HV.out]; rfl, q3.trans q4⟩
      · have HV := Lib.hid (HR.out.yes ⟨h10, stepL_end fun j h => HK.out j (by omega)⟩)
        have hilt : ¬ (i : Int) < (l.length : Int) := by omega
        go_wp2
        go_ret
        exact ⟨by rw [HV.out]; rfl, q⟩
  · have h10' : (10 : Int) < (l.length : Int) := by omega
    have HV := Lib.hid (HR.out.no (fun o => h10 o.1))
    go_enter Tryz.func102, Tryz.ntmps102
    go_wp2
    go_ret
    exact ⟨by rw [HV.out]; rfl, Q.refl _⟩
end Go.Proofs.YtbilnomafloopaaGreat

namespace Go.Proofs.YtbilnomafloopaaGreat
set_option maxRecDepth 100000
open Go.ChangeShapes Go.WideShapes Go.ChangeAt Go.RowKit
set_option linter.unusedVariables false
/-- Block B holds these cells. -/
def Bx (W : World) (B : Nat) (t : TypeId) (cs : Array Value) : Prop := W.heap[B]? = some (.cells cs t (0, 0))
theorem Bx.lt {W : World} {B : Nat} {t : TypeId} {cs : Array Value} (h : Bx W B t cs) : B < W.heap.size := (Array.getElem?_eq_some_iff.1 h).1
theorem Bx.cell {W : World} {B : Nat} {t : TypeId} {cs : Array Value} (h : Bx W B t cs) (i : Nat) : W.cell? ⟨B, i, none⟩ = cs[i]? := by simp [World.cell?, show W.heap[B]? = _ from h]
theorem Bx.frozen {W : World} {B : Nat} {t : TypeId} {cs : Array Value} (h : Bx W B t cs) (i : Nat) : W.frozen? ⟨B, i, none⟩ = false := by simp [World.frozen?, show W.heap[B]? = _ from h]
theorem Bx.new (W : World) (t : TypeId) (cs : Array Value) : Bx (W.alloc (.cells cs t)) W.heap.size t cs := heap_alloc_new W _
theorem Bx.same {W W' : World} {B : Nat} {t : TypeId} {cs : Array Value} (h : Bx W B t cs) (e : W'.heap[B]? = W.heap[B]?) : Bx W' B t cs := e.trans h
theorem Bx.on {W W' : World} {B : Nat} {t : TypeId} {cs : Array Value} (h : Bx W B t cs) (q : Q W W') : Bx W' B t cs := (q.block B h.lt).trans h
theorem Bx.alloc {W : World} {B : Nat} {t : TypeId} {cs : Array Value} (h : Bx W B t cs) (o : Obj) : Bx (W.alloc o) B t cs := h.on ((Q.refl _).alloc o)
theorem Bx.set {W : World} {B : Nat} {t : TypeId} {cs : Array Value} (h : Bx W B t cs) (i : Nat) (u : Value) : Bx (W.setCell ⟨B, i, none⟩ u) B t (cs.setIfInBounds i u) := by
  obtain ⟨hlt, hk⟩ := Array.getElem?_eq_some_iff.1 h
  show (W.heap.modify B _)[B]? = _
  rw [Array.getElem?_eq_getElem (by rw [Array.size_modify]; exact hlt), Array.getElem_modify_self, hk]
  rfl
theorem heap_set (W : World) (B i : Nat) (u : Value) {k : Nat} (h : k ≠ B) : (W.setCell ⟨B, i, none⟩ u).heap[k]? = W.heap[k]? := Below.heap_setCell _ _ _ k (by simpa using h)
theorem grown_set (W : World) (b i : Nat) (v : Value) : W.grownBy (W.setCell ⟨b, i, none⟩ v) (some b) :=
  ⟨rfl, rfl, rfl, by simp, fun k _ hk => heap_set W b i v (fun e => hk (by rw [e]))⟩
/-- A row of the call's own stays where a block below base is written. -/
theorem ownsRow_set {w : World} {base size n : Nat} {e : TypeId} {v : Value} {xs : List Value} (h : w.ownsRow base e size v n xs) {b i : Nat} {u : Value} (hb : b < base) : (w.setCell ⟨b, i, none⟩ u).ownsRow base e size v n xs := by
  refine World.ownsRow.kept h (grown_set w b i u) ?_
  cases e : v.ownBlock with
  | none => exact .inl rfl
  | some k => refine .inr fun e2 => ?_; injection e2 with e2; have := (World.ownsRow.lt h k e).1; omega
end Go.Proofs.YtbilnomafloopaaGreat

namespace Go.Proofs.YtbilnomafloopaaGreat
set_option maxRecDepth 100000
open Go.ChangeShapes Go.WideShapes Go.ChangeAt Go.RowKit
set_option linter.unusedVariables false
set_option linter.unusedSimpArgs false
/-- Two versions whose IDs may not follow each other: x is ahead of y. -/
def pairBad (x y : Ver) : Bool := if y.id = 0 then decide (x.id = 0) else if x.id = 0 then false else decide (x.id ≤ y.id)
def pairsTo (l : List Ver) (i n : Nat) : Prop := ∀ k (hi : i < l.length) (hk : k < n) (hk' : k < l.length), pairBad l[k] l[i] = false
def tmOk (l : List Ver) (i : Nat) : Prop := ∀ j (hj : j + 1 = i) (h : i < l.length), ¬ (l[j].tm < l[i].tm)
def stepOk (l : List Ver) (i : Nat) : Prop := (∀ h : i < l.length, mayV l[i] = true) ∧ tmOk l i ∧ pairsTo l i i
def okP (l : List Ver) : Prop := l.length ≤ 20 ∧ ∀ i, stepOk l i
def chkP (l : List Ver) (R : Bool) : Prop := (R = true ∧ okP l) ∨ (R = false ∧ ¬ okP l)
theorem chkP_ex (l : List Ver) : ∃ R, chkP l R := by
  by_cases h : okP l
  · exact ⟨true, .inl ⟨rfl, h⟩⟩
  · exact ⟨false, .inr ⟨rfl, h⟩⟩
theorem chkP_no {l : List Ver} {R : Bool} (h : chkP l R) (k : ¬ okP l) : R = false := by
  rcases h with ⟨-, h⟩ | ⟨h, -⟩
  · exact absurd h k
  · exact h
theorem chkP_yes {l : List Ver} {R : Bool} (h : chkP l R) (k : okP l) : R = true := by
  rcases h with ⟨h, -⟩ | ⟨-, h⟩
  · exact h
  · exact absurd k h
theorem step_end {l : List Ver} {i : Nat} (h : l.length ≤ i) : stepOk l i := ⟨fun k => by omega, fun j hj k => by omega, fun k hi => by omega⟩
theorem chk_end {l : List Ver} {R : Bool} (h : chkP l R) (k : ∀ j, j < l.length → stepOk l j) : R = decide (l.length ≤ 20) := by
  have hall : ∀ i, stepOk l i := fun i => by
    by_cases hi : i < l.length
    · exact k i hi
    · exact step_end (by omega)
  by_cases h20 : l.length ≤ 20
  · rw [chkP_yes h ⟨h20, hall⟩]; simp [h20]
  · rw [chkP_no h (fun o => h20 o.1)]; simp [h20]
end Go.Proofs.YtbilnomafloopaaGreat

namespace Go.Proofs.YtbilnomafloopaaGreat
set_option maxRecDepth 100000
open Go.ChangeShapes Go.WideShapes Go.ChangeAt Go.RowKit
set_option linter.unusedVariables false
theorem own_len {base : Nat} {w : World} {v : Value} {l : List Ver} (h : OwnV base w v l) : ∃ A c, v = .slice A l.length c := by
  rcases h.2 with ⟨rfl, h0⟩ | ⟨g, cap, cur, rfl, -⟩
  · exact ⟨none, 0, by rw [h0]⟩
  · exact ⟨_, _, rfl⟩
/-- What Find tells. -/
def zeroV : Value := .agg #[.int .u64 0, .string ⟨#[]⟩, .bool false, .int .i64 0]
def findV (l : List Ver) (id : Nat) : Option Ver := l.find? fun x => decide (x.id = id)
def findR (o : Option Ver) : Value := match o with
  | some x => .tuple #[ver x, .int .i64 (if x.mark then 13 else 0)]
  | none => .tuple #[zeroV, .int .i64 4]
end Go.Proofs.YtbilnomafloopaaGreat

namespace Go.Proofs.YtbilnomafloopaaGreat
set_option maxRecDepth 100000
open Go.ChangeShapes Go.WideShapes Go.ChangeAt Go.RowKit
set_option linter.unusedVariables false
set_option maxHeartbeats 2000000 in
theorem may_any (v : Ver) (w : World) :
    Calls Tryz.prog 191 #[ver v] w fun e w' => e = .returned (.bool (mayV v)) ∧ Q w w' := by
  have HF := Lib.hid (show mayV v = (decide (v.id ≤ 281474976710655) && decide (v.data.size ≤ 2000) && (!v.mark || decide (v.data.size = 0)) && decide (0 ≤ v.tm) && decide (v.tm ≤ 1099511627775)) from rfl)
  have HQ := Lib.hid (fun o => (Q.refl w).alloc o)
  obtain ⟨i, d, m, t⟩ := v
  rw [ver]
  simp only at HF ⊢
  by_cases h1 : i ≤ 281474976710655
  · have j1 : ¬ (281474976710655 : Int) < (i : Int) := by omega
    rcases three t with h3 | ⟨h3, h4⟩ | ⟨h3, h4⟩
    · have h3' : t < 0 := by omega
      have HV := Lib.hid (HF.out.trans (by simp [*] : _ = false))
      go_enter Tryz.func191, Tryz.ntmps191
      go_wp2
      go_ret
      exact ⟨ret_bool (by rw [HV.out]), HQ.out _⟩
    · have h3' : ¬ t < 0 := by omega
      have h4' : ¬ 1099511627775 < t := by omega
      cases m
      · by_cases h2 : d.size ≤ 2000
        · have j2 : (d.size : Int) ≤ 2000 := by omega
          have HV := Lib.hid (HF.out.trans (by simp [*] : _ = true))
          go_enter Tryz.func191, Tryz.ntmps191
          go_wp2
          go_ret
          exact ⟨ret_bool (by rw [HV.out]), HQ.out _⟩
        · have j2 : ¬ (d.size : Int) ≤ 2000 := by omega
          have HV := Lib.hid (HF.out.trans (by simp [*] : _ = false))
          go_enter Tryz.func191, Tryz.ntmps191
          go_wp2
          go_ret
          exact ⟨ret_bool (by rw [HV.out]), HQ.out _⟩
      · by_cases hz : d.size = 0
        · have e1 := emp_yes hz
          have e2 := emp_yes' hz
          have HV := Lib.hid (HF.out.trans (by simp [*] : _ = true))
          go_enter Tryz.func191, Tryz.ntmps191
          go_wp2
          go_ret
          exact ⟨ret_bool (by rw [HV.out]), HQ.out _⟩
        · have e1 := emp_no (t := d) (by omega)
          have e2 := emp_no' (t := d) (by omega)
          have HV := Lib.hid (HF.out.trans (by simp [*] : _ = false))
          go_enter Tryz.func191, Tryz.ntmps191
          go_wp2
          go_ret
          exact ⟨ret_bool (by rw [HV.out]), HQ.out _⟩
    · have h3' : ¬ t < 0 := by omega
      have h4' : 1099511627775 < t := by omega
      have HV := Lib.hid (HF.out.trans (by simp [*] : _ = false))
      go_enter Tryz.func191, Tryz.ntmps191
      go_wp2
      go_ret
      exact ⟨ret_bool (by rw [HV.out]), HQ.out _⟩
  · have j1 : (281474976710655 : Int) < (i : Int) := by omega
    have HV := Lib.hid (HF.out.trans (by simp [h1] : _ = false))
    go_enter Tryz.func191, Tryz.ntmps191
    go_wp2
    go_ret
    exact ⟨ret_bool (by rw [HV.out]), HQ.out _⟩
end Go.Proofs.YtbilnomafloopaaGreat

namespace Go.Proofs.YtbilnomafloopaaGreat
set_option maxRecDepth 100000
open Go.ChangeShapes Go.WideShapes Go.ChangeAt Go.RowKit
set_option linter.unusedVariables false
/-- The place of the first version of which p tells yes; below 0, if there is none. -/
def idxV (p : Ver → Bool) (l : List Ver) : Int := match l.findIdx? p with
  | some i => (i : Nat)
  | none => -1
theorem idxV_hit {p : Ver → Bool} {l : List Ver} {i : Nat} (hl : i < l.length) (h : p l[i] = true) (k : ∀ j (hj : j < i) (hl : j < l.length), p l[j] = false) : idxV p l = i := by
  have : l.findIdx? p = some i := by
    rw [List.findIdx?_eq_some_iff_getElem]
    exact ⟨hl, h, fun j hj => by rw [k j hj (by omega)]; simp⟩
  rw [idxV, this]
theorem idxV_none {p : Ver → Bool} {l : List Ver} (k : ∀ j (hl : j < l.length), p l[j] = false) : idxV p l = -1 := by
  have : l.findIdx? p = none := by
    rw [List.findIdx?_eq_none_iff]
    intro x hx
    obtain ⟨j, hj, rfl⟩ := List.getElem_of_mem hx
    exact k j hj
  rw [idxV, this]
set_option maxHeartbeats 2000000 in
theorem indexFunc_any (g B : Nat) (p : Ver → Bool) (l : List Ver) (v : Value) (w : World) (eg : ∀ args w, (callFunc g args).run Tryz.prog w = .ok (.enter g args) w)
    (hp : ∀ x b, Q w b → Calls Tryz.prog g #[ver x, .pointer (some ⟨B, 0, none⟩)] b fun e w' => e = .returned (.bool (p x)) ∧ Q b w')
    (hl : l.length ≤ 1000) (ht : Vers w w.heap.size v l) :
    Calls Tryz.prog 164 #[v, .func (.func g) #[] #[.pointer (some ⟨B, 0, none⟩)]] w fun e w' => e = .returned (.int .i64 (idxV p l)) ∧ Q w w' := by
  obtain ⟨A, c, rfl, -, -, -, hcells⟩ := ht
  have HC := Lib.hid hcells
  have HP := Lib.hid hp
  clear hcells hp
  go_enter Tryz.func164, Tryz.ntmps164
  go_wp2_with fail
  go_loopw [5, 8] (fun _ I wr => ∃ i : Nat, i ≤ l.length ∧ I = .int .i64 i ∧ Q w wr ∧ Hid (∀ j (hj : j < i) (hl : j < l.length), p l[j] = false)) (fun _ I _ => l.length - (intOf I).toNat)
  case atStart => exact ⟨0, Nat.zero_le _, rfl, Q.refl _, Lib.hid (fun j h => by omega)⟩
  case round =>
    obtain ⟨i, hil, rfl, q, HK⟩ := hrel
    by_cases hlt : i < l.length
    · obtain ⟨a, rfl, ha, hat⟩ := HC.out i hlt
      obtain ⟨c0, c1, c2, c3⟩ := hat.keep (by rw [add_block]; exact ha) fun _ hp => q.cell hp
      clear hat
      cases hpx : p l[i] with
      | true =>
        have HV := Lib.hid (idxV_hit hlt hpx HK.out)
        obtain ⟨x, hx⟩ : ∃ x, x = l[i] := ⟨_, rfl⟩
        rw [← hx] at c0 c1 c2 c3 hpx
        clear hx
        have C := HP.out x wr q
        rw [hpx, ver] at C
        have C := Lib.hid C
        clear hpx
        go_wp2_with (go_at_fn g; refine (C.out).mono ?_; rintro e w1 ⟨rfl, q1⟩)
        go_ret
        exact ⟨by rw [HV.out]; rfl, q.trans q1⟩
      | false =>
        have HK2 : Hid (∀ j (hj : j < i + 1) (hl : j < l.length), p l[j] = false) := Lib.hid (fun j hj hl => by
          by_cases e : j = i
          · subst e; exact hpx
          · exact HK.out j (by omega) hl)
        obtain ⟨x, hx⟩ : ∃ x, x = l[i] := ⟨_, rfl⟩
        rw [← hx] at c0 c1 c2 c3 hpx
        clear hx
        have C := HP.out x wr q
        rw [hpx, ver] at C
        have C := Lib.hid C
        clear hpx
        go_wp2_with (go_at_fn g; refine (C.out).mono ?_; rintro e w1 ⟨rfl, q1⟩)
        go_roundw
        case rel => exact ⟨i + 1, by omega, by go_num, q.trans q1, HK2⟩
        case measure => simp [intOf]; omega
    · have HV := Lib.hid (idxV_none (p := p) (l := l) (fun j hl => HK.out j (by omega) hl))
      go_wp2
      go_ret
      exact ⟨by rw [HV.out]; rfl, q⟩
theorem idxV_sign (p : Ver → Bool) (l : List Ver) : (0 ≤ idxV p l) ↔ l.any p = true := by
  unfold idxV
  cases h : l.findIdx? p with
  | some i =>
    rw [List.findIdx?_eq_some_iff_getElem] at h
    obtain ⟨hi, hp, -⟩ := h
    refine ⟨fun _ => List.any_eq_true.2 ⟨_, List.getElem_mem hi, hp⟩, fun _ => by simp⟩
  | none =>
    rw [List.findIdx?_eq_none_iff] at h
    refine ⟨fun k => by simp at k, fun k => ?_⟩
    obtain ⟨x, hx, hp⟩ := List.any_eq_true.1 k
    rw [h x hx] at hp; simp at hp
theorem containsFunc_any (g B : Nat) (p : Ver → Bool) (l : List Ver) (v : Value) (w : World) (eg : ∀ args w, (callFunc g args).run Tryz.prog w = .ok (.enter g args) w)
    (hp : ∀ x b, Q w b → Calls Tryz.prog g #[ver x, .pointer (some ⟨B, 0, none⟩)] b fun e w' => e = .returned (.bool (p x)) ∧ Q b w')
    (hl : l.length ≤ 1000) (ht : Vers w w.heap.size v l) :
    Calls Tryz.prog 107 #[v, .func (.func g) #[] #[.pointer (some ⟨B, 0, none⟩)]] w fun e w' => e = .returned (.bool (l.any p)) ∧ Q w w' := by
  have C := Lib.hid (indexFunc_any g B p l v w eg hp hl ht)
  have HS := idxV_sign p l
  clear hp
  cases h : l.any p with
  | true =>
    have k : 0 ≤ idxV p l := HS.2 h
    clear HS
    generalize idxV p l = r at C k
    go_enter Tryz.func107, Tryz.ntmps107
    go_wp2_with fail
    refine (C.out).mono ?_
    rintro e w1 ⟨rfl, q1⟩
    go_wp2
    go_ret
    exact ⟨by first | rfl | simp [k], q1⟩
  | false =>
    have k : ¬ 0 ≤ idxV p l := fun e => by rw [HS.1 e] at h; simp at h
    clear HS
    generalize idxV p l = r at C k
    go_enter Tryz.func107, Tryz.ntmps107
    go_wp2_with fail
    refine (C.out).mono ?_
    rintro e w1 ⟨rfl, q1⟩
    go_wp2
    go_ret
    exact ⟨by first | rfl | simp [k], q1⟩
end Go.Proofs.YtbilnomafloopaaGreat

namespace Go.Proofs.YtbilnomafloopaaGreat
set_option maxRecDepth 100000
open Go.ChangeShapes Go.WideShapes Go.ChangeAt Go.RowKit
set_option linter.unusedVariables false
/-- What stands ahead of round i: the last ID that is not 0, whether there was a 0, and the last time. -/
def ChkI (l : List Ver) (i A : Nat) (Z : Bool) (T : Int) : Prop :=
  (∀ j, j < i → stepOk l j) ∧ (∀ k (hk : k < i) (h : k < l.length), l[k].id ≠ 0 → A ≤ l[k].id) ∧ (A = 281474976710656 ∨ ∃ k, k < i ∧ ∃ h : k < l.length, A = l[k].id ∧ l[k].id ≠ 0) ∧
  (Z = true ↔ ∃ k, k < i ∧ ∃ h : k < l.length, l[k].id = 0) ∧ (i = 0 → T = 1099511627775) ∧ (∀ j (hj : j + 1 = i) (h : j < l.length), T = l[j].tm)
theorem chkI_zero (l : List Ver) : ChkI l 0 281474976710656 false 1099511627775 :=
  ⟨fun j h => by omega, fun k h => by omega, .inl rfl, by simp, fun _ => rfl, fun j h => by omega⟩
theorem chkI_late {l : List Ver} {i A : Nat} {Z : Bool} {T : Int} (h : ChkI l i A Z T) (hi : i < l.length) (hm : mayV l[i] = true) (ht : T < l[i].tm) : ¬ okP l := by
  intro o
  obtain ⟨-, -, -, -, h0, hT⟩ := h
  obtain ⟨-, -, -, -, m5⟩ := mayV_iff.1 hm
  cases i with
  | zero => rw [h0 rfl] at ht; omega
  | succ j =>
    rw [hT j rfl (by omega)] at ht
    exact (o.2 (j + 1)).2.1 j rfl hi ht
theorem chkI_above {l : List Ver} {i A : Nat} {Z : Bool} {T : Int} (h : ChkI l i A Z T) (hi : i < l.length) (hm : mayV l[i] = true) (ha : A ≤ l[i].id) : ¬ okP l := by
  intro o
  obtain ⟨m1, -⟩ := mayV_iff.1 hm
  obtain ⟨-, -, hA, -⟩ := h
  rcases hA with hA | ⟨k, hk, hkl, hA, hz⟩
  · omega
  · have := (o.2 i).2.2 k hi hk hkl
    rw [pairBad, if_neg (by omega), if_neg hz] at this
    have h2 : l[k].id ≤ l[i].id := by omega
    simp [h2] at this
theorem chkI_zeros {l : List Ver} {i A : Nat} {Z : Bool} {T : Int} (h : ChkI l i A Z T) (hi : i < l.length) (h0 : l[i].id = 0) (hZ : Z = true) : ¬ okP l := by
  intro o
  obtain ⟨-, -, -, hz, -⟩ := h
  obtain ⟨k, hk, hkl, e⟩ := hz.1 hZ
  have := (o.2 i).2.2 k hi hk hkl
  rw [pairBad, if_pos h0] at this
  simp [e] at this
theorem chkI_step {l : List Ver} {i A : Nat} {Z : Bool} {T : Int} (h : ChkI l i A Z T) (hi : i < l.length) (hm : mayV l[i] = true) (ht : ¬ T < l[i].tm) (ha : ¬ A ≤ l[i].id) (hz : ¬ (l[i].id = 0 ∧ Z = true)) : stepOk l i := by
  obtain ⟨h1, h2, h3, h4, h5, h6⟩ := h
  refine ⟨fun _ => hm, fun j hj _ => ?_, fun k _ hk hkl => ?_⟩
  · rw [h6 j hj (by omega)] at ht; exact ht
  · unfold pairBad
    by_cases h0 : l[i].id = 0
    · rw [if_pos h0, decide_eq_false_iff_not]
      exact fun e => hz ⟨h0, h4.2 ⟨k, hk, hkl, e⟩⟩
    · rw [if_neg h0]
      by_cases hk0 : l[k].id = 0
      · rw [if_pos hk0]
      · rw [if_neg hk0, decide_eq_false_iff_not]
        have := h2 k hk hkl hk0
        omega
theorem chkI_more0 {l : List Ver} {i A : Nat} {T : Int} (h : ChkI l i A false T) (hi : i < l.length) (hs : stepOk l i) (h0 : l[i].id = 0) : ChkI l (i + 1) A true l[i].tm := by
  obtain ⟨h1, h2, h3, h4, h5, h6⟩ := h
  refine ⟨fun j hj => ?_, fun k hk hkl hk0 => ?_, ?_, ⟨fun _ => ⟨i, by omega, hi, h0⟩, fun _ => rfl⟩, fun e => by omega, fun j hj hjl => ?_⟩
  · by_cases e : j = i
    · subst e; exact hs
    · exact h1 j (by omega)
  · by_cases e : k = i
    · subst e; exact absurd h0 hk0
    · exact h2 k (by omega) hkl hk0
  · rcases h3 with h3 | ⟨k, hk, r⟩
    · exact .inl h3
    · exact .inr ⟨k, by omega, r⟩
  · have e : j = i := by omega
    subst e; rfl
theorem chkI_more {l : List Ver} {i A : Nat} {Z : Bool} {T : Int} (h : ChkI l i A Z T) (hi : i < l.length) (hs : stepOk l i) (h0 : l[i].id ≠ 0) (ha : ¬ A ≤ l[i].id) : ChkI l (i + 1) l[i].id Z l[i].tm := by
  obtain ⟨h1, h2, h3, h4, h5, h6⟩ := h
  refine ⟨fun j hj => ?_, fun k hk hkl hk0 => ?_, .inr ⟨i, by omega, hi, rfl, h0⟩, ⟨fun hZ => ?_, fun ⟨k, hk, hkl, e⟩ => ?_⟩, fun e => by omega, fun j hj hjl => ?_⟩
  · by_cases e : j = i
    · subst e; exact hs
    · exact h1 j (by omega)
  · by_cases e : k = i
    · subst e; omega
    · have := h2 k (by omega) hkl hk0
      omega
  · obtain ⟨k, hk, r⟩ := h4.1 hZ
    exact ⟨k, by omega, r⟩
  · by_cases e2 : k = i
    · subst e2; exact absurd e h0
    · exact h4.2 ⟨k, by omega, hkl, e⟩
  · have e : j = i := by omega
    subst e; rfl
theorem chkI_pos {l : List Ver} {i A : Nat} {Z : Bool} {T : Int} (h : ChkI l i A Z T) : 0 < A := by
  obtain ⟨h1, h2, h3, h4, h5, h6⟩ := h
  rcases h3 with h3 | ⟨k, hk, hkl, e, e0⟩ <;> omega
/-- A version's box, behind calls. -/
theorem box_of {w w1 : World} {i : Int} {d : ByteArray} {m : Bool} {t : Int} (q : Q (w.alloc (.cells #[.int .u64 i, .string d, .bool m, .int .i64 t] 81)) w1) :
    w1.cell? ⟨w.heap.size, 0, none⟩ = some (.int .u64 i) ∧ w1.cell? ⟨w.heap.size, 1, none⟩ = some (.string d) ∧ w1.cell? ⟨w.heap.size, 2, none⟩ = some (.bool m) ∧ w1.cell? ⟨w.heap.size, 3, none⟩ = some (.int .i64 t) := by
  have c : ∀ k, w1.cell? ⟨w.heap.size, k, none⟩ = (w.alloc (.cells #[.int .u64 i, .string d, .bool m, .int .i64 t] 81)).cell? ⟨w.heap.size, k, none⟩ := fun k => Below.cell q (p := ⟨w.heap.size, k, none⟩) (by simp)
  refine ⟨(c 0).trans ?_, (c 1).trans ?_, (c 2).trans ?_, (c 3).trans ?_⟩ <;> simp [go_sem]
def chkE (R : Bool) : Int := if R then 0 else 1
set_option maxHeartbeats 4000000 in
theorem check_any (l : List Ver) (v : Value) (w : World) (R : Bool) (hR : chkP l R) (hl : l.length ≤ 1000) (ht : Vers w w.heap.size v l) :
    Calls Tryz.prog 156 #[v] w fun e w' => e = .returned (.int .i64 (chkE R)) ∧ Q w w' := by
  obtain ⟨A, c, rfl, -, -, -, hcells⟩ := ht
  have HC := Lib.hid hcells
  have HR := Lib.hid hR
  clear hcells hR
  by_cases h20 : l.length ≤ 20
  · have h20' : ¬ (20 : Int) < (l.length : Int) := by omega
    have NO : Hid (¬ okP l → chkE R = 1) := Lib.hid (fun k => by rw [chkP_no HR.out k]; rfl)
    go_enter Tryz.func156, Tryz.ntmps156
    go_wp2_with fail
    go_loopw [3, 4, 5, 7, 13] (fun AB LA ZE _ I wr => ∃ (i ab : Nat) (ze : Bool) (la : Int), i ≤ l.length ∧ ab ≤ 281474976710656 ∧ I = .int .i64 i ∧ AB = .int .u64 ab ∧ LA = .int .i64 la ∧ ZE = .bool ze ∧ Q w wr ∧ Hid (ChkI l i ab ze la)) (fun _ _ _ _ I _ => l.length - (intOf I).toNat)
    case atStart => exact ⟨0, 281474976710656, false, 1099511627775, Nat.zero_le _, Nat.le_refl _, rfl, rfl, rfl, rfl, Q.refl _, Lib.hid (chkI_zero l)⟩
    case round =>
      obtain ⟨i, ab, ze, la, hil, hab, rfl, rfl, rfl, rfl, q, HI⟩ := hrel
      by_cases hlt : i < l.length
      · obtain ⟨a, rfl, ha, hat⟩ := HC.out i hlt
        obtain ⟨c0, c1, c2, c3⟩ := hat.keep (by rw [add_block]; exact ha) fun _ hp => q.cell hp
        clear hat
        have HP := chkI_pos HI.out
        cases hm : mayV l[i] with
        | false =>
          have HV := Lib.hid (NO.out (fun o => by have := (o.2 i).1 hlt; rw [hm] at this; simp at this))
          obtain ⟨x, hx⟩ : ∃ x, x = l[i] := ⟨_, rfl⟩
          rw [← hx] at c0 c1 c2 c3 hm
          clear hx
          have C := Lib.hid (fun b => may_any x b)
          rw [hm, ver] at C
          clear hm
          go_wp2_with fail
          refine (C.out _).mono ?_
          rintro e w1 ⟨rfl, q1⟩
          go_wp2
          go_ret
          exact ⟨by rw [HV.out]; rfl, (q.alloc _).trans q1⟩
        | true =>
          by_cases htm : la < l[i].tm
          · have HV := Lib.hid (NO.out (chkI_late HI.out hlt hm htm))
            obtain ⟨x, hx⟩ : ∃ x, x = l[i] := ⟨_, rfl⟩
            rw [← hx] at c0 c1 c2 c3 hm htm
            clear hx
            have C := Lib.hid (fun b => may_any x b)
            rw [hm, ver] at C
            clear hm
            go_wp2_with fail
            refine (C.out _).mono ?_
            rintro e w1 ⟨rfl, q1⟩
            obtain ⟨b0, b1, b2, b3⟩ := box_of q1
            have q2 := (q.alloc _).trans q1
            go_wp2
            go_ret
            exact ⟨by rw [HV.out]; rfl, q2⟩
          · by_cases hA : ab ≤ l[i].id
            · have HV := Lib.hid (NO.out (chkI_above HI.out hlt hm hA))
              obtain ⟨x, hx⟩ : ∃ x, x = l[i] := ⟨_, rfl⟩
              rw [← hx] at c0 c1 c2 c3 hm htm hA
              clear hx
              have hA' : (ab : Int) ≤ (x.id : Int) := by omega
              have C := Lib.hid (fun b => may_any x b)
              rw [hm, ver] at C
              clear hm
              go_wp2_with fail
              refine (C.out _).mono ?_
              rintro e w1 ⟨rfl, q1⟩
              obtain ⟨b0, b1, b2, b3⟩ := box_of q1
              have q2 := (q.alloc _).trans q1
              go_wp2
              go_ret
              exact ⟨by rw [HV.out]; rfl, q2⟩
            · by_cases h0 : l[i].id = 0
              · cases ze with
                | true =>
                  have HV := Lib.hid (NO.out (chkI_zeros HI.out hlt h0 rfl))
                  obtain ⟨x, hx⟩ : ∃ x, x = l[i] := ⟨_, rfl⟩
                  rw [← hx] at c0 c1 c2 c3 hm htm hA h0
                  clear hx
                  have hA' : ¬ (ab : Int) ≤ (x.id : Int) := by omega
                  have C := Lib.hid (fun b => may_any x b)
                  rw [hm, ver] at C
                  have h0' : ((x.id : Int) == 0) = true := by simp [h0]
                  clear hm h0
                  go_wp2_with fail
                  refine (C.out _).mono ?_
                  rintro e w1 ⟨rfl, q1⟩
                  obtain ⟨b0, b1, b2, b3⟩ := box_of q1
                  have q2 := (q.alloc _).trans q1
                  go_wp2
                  go_ret
                  exact ⟨by rw [HV.out]; rfl, q2⟩
                | false =>
                  have HN := Lib.hid (chkI_more0 HI.out hlt (chkI_step HI.out hlt hm htm hA (by simp)) h0)
                  obtain ⟨x, hx⟩ : ∃ x, x = l[i] := ⟨_, rfl⟩
                  rw [← hx] at c0 c1 c2 c3 hm htm hA h0 HN
                  clear hx
                  have hA' : ¬ (ab : Int) ≤ (x.id : Int) := by omega
                  have C := Lib.hid (fun b => may_any x b)
                  rw [hm, ver] at C
                  have h0' : ((x.id : Int) == 0) = true := by simp [h0]
                  clear hm h0
                  go_wp2_with fail
                  refine (C.out _).mono ?_
                  rintro e w1 ⟨rfl, q1⟩
                  obtain ⟨b0, b1, b2, b3⟩ := box_of q1
                  have q2 := (q.alloc _).trans q1
                  go_wp2
                  go_roundw
                  case rel => exact ⟨i + 1, ab, true, x.tm, by omega, hab, by go_num, rfl, rfl, rfl, q2, HN⟩
                  case measure => simp [intOf]; omega
              · have HN := Lib.hid (chkI_more HI.out hlt (chkI_step HI.out hlt hm htm hA (fun e => h0 e.1)) h0 hA)
                obtain ⟨x, hx⟩ : ∃ x, x = l[i] := ⟨_, rfl⟩
                rw [← hx] at c0 c1 c2 c3 hm htm hA h0 HN
                clear hx
                have hA' : ¬ (ab : Int) ≤ (x.id : Int) := by omega
                have C := Lib.hid (fun b => may_any x b)
                have hx48 : x.id ≤ 281474976710656 := by omega
                rw [hm, ver] at C
                have h0' : ((x.id : Int) == 0) = false := by
                  have : ¬ (x.id : Int) = 0 := by omega
                  simpa using this
                clear hm h0
                go_wp2_with fail
                refine (C.out _).mono ?_
                rintro e w1 ⟨rfl, q1⟩
                obtain ⟨b0, b1, b2, b3⟩ := box_of q1
                have q2 := (q.alloc _).trans q1
                go_wp2
                go_roundw
                case rel => exact ⟨i + 1, x.id, ze, x.tm, by omega, hx48, by go_num, rfl, rfl, rfl, q2, HN⟩
                case measure => simp [intOf]; omega
      · have HV : Hid (chkE R = 0) := Lib.hid (by
          have := chk_end HR.out (fun j hj => HI.out.1 j (by omega))
          rw [this]; simp [h20, chkE])
        go_wp2
        go_ret
        exact ⟨by rw [HV.out]; rfl, q⟩
  · have h20' : (20 : Int) < (l.length : Int) := by omega
    have HV : Hid (chkE R = 1) := Lib.hid (by rw [chkP_no HR.out (fun o => h20 o.1)]; rfl)
    go_enter Tryz.func156, Tryz.ntmps156
    go_wp2
    go_ret
    exact ⟨by rw [HV.out]; rfl, Q.refl _⟩
end Go.Proofs.YtbilnomafloopaaGreat

namespace Go.Proofs.YtbilnomafloopaaGreat
set_option maxRecDepth 100000
open Go.ChangeShapes Go.WideShapes Go.ChangeAt Go.RowKit
set_option linter.unusedVariables false
end Go.Proofs.YtbilnomafloopaaGreat

namespace Go.Proofs.YtbilnomafloopaaGreat
set_option maxRecDepth 100000
open Go.ChangeShapes Go.WideShapes Go.ChangeAt Go.RowKit
set_option linter.unusedVariables false
end Go.Proofs.YtbilnomafloopaaGreat

namespace Go.Proofs.YtbilnomafloopaaGreat
set_option maxRecDepth 100000
open Go.ChangeShapes Go.WideShapes Go.ChangeAt Go.RowKit
set_option linter.unusedVariables false
end Go.Proofs.YtbilnomafloopaaGreat

namespace Go.Proofs.YtbilnomafloopaaGreat
set_option maxRecDepth 100000
open Go.ChangeShapes Go.WideShapes Go.ChangeAt Go.RowKit
set_option linter.unusedVariables false
set_option linter.unusedSimpArgs false
/-- All the cells of a slice of versions. -/
theorem Vers.flat {w : World} {B : Nat} {a : Addr} {n c : Nat} {l : List Ver} (h : Vers w B (.slice (some a) n c) l) : ∀ j u, (l.flatMap vcells)[j]? = some u → w.cell? (a.add j) = some u := by
  obtain ⟨A, c', e, -, -, -, f⟩ := h
  injection e with e1 e2 e3
  intro j u hu
  obtain ⟨hj, -⟩ := List.getElem?_eq_some_iff.1 hu
  rw [flat_vcells] at hj
  have hk : j / 4 < l.length := by omega
  obtain ⟨a', ea, -, hat⟩ := f (j / 4) hk
  rw [← e1] at ea
  injection ea with ea
  subst ea
  have hj2 : j = j / 4 * 4 + j % 4 := by omega
  rw [hj2, flat_at l _ hk (by omega)] at hu
  have hadd : ∀ r, 0 < r → a.add (j / 4 * 4 + r) = ⟨(a.add (j / 4 * 4)).block, (a.add (j / 4 * 4)).off + r, none⟩ := by
    intro r hr
    rw [add_pos _ (by omega), add_block]
    unfold Addr.add
    split
    · simp [*]
    · simp [Nat.add_assoc]
  obtain ⟨c0, c1, c2, c3⟩ := hat
  rw [hj2]
  have hr : j % 4 < 4 := by omega
  match hm : j % 4, hr with
  | 0, _ => rw [hm] at hu; simp [vcells] at hu; rw [Nat.add_zero, c0, ← hu]
  | 1, _ => rw [hm] at hu; simp [vcells] at hu; rw [hadd 1 (by omega), c1, ← hu]
  | 2, _ => rw [hm] at hu; simp [vcells] at hu; rw [hadd 2 (by omega), c2, ← hu]
  | 3, _ => rw [hm] at hu; simp [vcells] at hu; rw [hadd 3 (by omega), c3, ← hu]
end Go.Proofs.YtbilnomafloopaaGreat

