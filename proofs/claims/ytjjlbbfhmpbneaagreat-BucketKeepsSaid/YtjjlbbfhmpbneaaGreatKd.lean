/-
  May uploads be? Contracts of the program's Check and the document's May. Boxes as whole blocks.
-/
import Derived.Test.YtjjlbbfhmpbneaaGreatKc
import Derived.Maps.OwnIn
namespace Go.Proofs.YtjjlbbfhmpbneaaGreat
set_option maxRecDepth 100000
open Go.ChangeShapes Go.WideShapes Go.ChangeAt Go.RowKit
set_option linter.unusedVariables false
set_option linter.unusedSimpArgs false
/-- Upload i may be, and is above the one ahead of it. -/
def stepL (l : List Upl) (i : Nat) : Prop := ∀ h : i < l.length, okUp l[i] ∧ ∀ j (hj : j + 1 = i), (l[j]'(by omega)).id < l[i].id
def okUps (l : List Upl) : Prop := l.length ≤ 10 ∧ ∀ i, stepL l i
def smL (l : List Upl) : Prop := l.length ≤ 1000 ∧ ∀ x ∈ l, smU x
def lastI (l : List Upl) (i : Nat) (x : Nat) : Prop := (i = 0 ∧ x = 0) ∨ ∃ j, ∃ h : j < l.length, j + 1 = i ∧ x = l[j].id
theorem stepL_more {l : List Upl} {i : Nat} (h : ∀ j, j < i → stepL l j) (k : stepL l i) : ∀ j, j < i + 1 → stepL l j := fun j hj => by
  by_cases e : j = i
  · subst e; exact k
  · exact h j (by omega)
theorem stepL_end {l : List Upl} (h : ∀ j, j < l.length → stepL l j) : ∀ i, stepL l i := fun i hi => h i hi hi
theorem lastI_next {l : List Upl} {i : Nat} (h : i < l.length) : lastI l (i + 1) l[i].id := .inr ⟨i, h, rfl, rfl⟩
theorem okUp_id {u : Upl} (h : okUp u) : 1 ≤ u.id ∧ u.id ≤ 281474976710655 := by
  have := h.1
  rw [mayB, Bool.and_eq_true] at this
  exact mayN_iff.1 this.1
theorem lastI_step {l : List Upl} {i : Nat} {x : Nat} (h : i < l.length) (hx : lastI l i x) (hm : okUp l[i]) (hn : ¬ l[i].id ≤ x) : stepL l i := fun _ => by
  refine ⟨hm, fun j hj => ?_⟩
  rcases hx with ⟨h0, -⟩ | ⟨j', hj', e, rfl⟩
  · omega
  · obtain rfl : j' = j := by omega
    omega
theorem lastI_bad {l : List Upl} {i : Nat} {x : Nat} (h : i < l.length) (hx : lastI l i x) (hm : okUp l[i]) (hn : l[i].id ≤ x) : ¬ stepL l i := fun s => by
  obtain ⟨-, s2⟩ := s h
  rcases hx with ⟨h0, rfl⟩ | ⟨j', hj', e, rfl⟩
  · have := (okUp_id hm).1
    omega
  · have := s2 j' e
    omega
def chkEU (R : Bool) : Int := if R then 0 else 1
set_option maxHeartbeats 4000000 in
theorem checkU_any (l : List Upl) (v : Value) (w : World) (R : Bool) (hR : Chk (okUps l) R) (hs : smL l) (ht : Upls w w.heap.size v l) :
    Calls Tryz.prog 47 #[v] w fun e w' => e = .returned (.int .i64 (chkEU R)) ∧ Q w w' := by
  have HT := Lib.hid ht
  have HR := Lib.hid hR
  have HS := Lib.hid hs
  have hl := hs.1
  obtain ⟨A, c, rfl⟩ := ht.form
  clear ht hR hs
  by_cases h10 : l.length ≤ 10
  · have h10' : ¬ (10 : Int) < (l.length : Int) := by omega
    go_enter Tryz.func47, Tryz.ntmps47
    go_wp2_with fail
    go_loopw [3, 5, 11] (fun LA _ I wr => ∃ i x : Nat, i ≤ l.length ∧ I = .int .i64 i ∧ LA = .int .u64 (x : Nat) ∧ Hid (lastI l i x) ∧ Q w wr ∧ Hid (∀ j, j < i → stepL l j)) (fun _ _ I _ => l.length - (intOf I).toNat)
    case atStart => exact ⟨0, 0, Nat.zero_le _, rfl, rfl, Lib.hid (.inl ⟨rfl, rfl⟩), Q.refl _, Lib.hid (fun j h => by omega)⟩
    case round =>
      obtain ⟨i, x, hil, rfl, rfl, HL, q, HK⟩ := hrel
      by_cases hlt : i < l.length
      · obtain ⟨a, c', hv, ha, A2, c2, hps, hat⟩ := HT.out.pick i hlt
        injection hv with e1 e2 e3
        subst e1 e3
        obtain ⟨c0, c1, d2⟩ := hat _ q
        clear hat e2
        have hilt : (i : Int) < (l.length : Int) := by omega
        have NO1 : ¬ okUp l[i] → R = false := fun h => HR.out.no fun o => h (o.2 i hlt).1
        have NO2 : okUp l[i] → l[i].id ≤ x → R = false := fun h1 h2 => HR.out.no fun o => lastI_bad hlt HL.out h1 h2 (o.2 i)
        have YES : okUp l[i] → ¬ l[i].id ≤ x → ∀ j, j < i + 1 → stepL l j := fun h1 h2 => stepL_more HK.out (lastI_step hlt HL.out h1 h2)
        have NX : lastI l (i + 1) l[i].id := lastI_next hlt
        have hsm := HS.out.2 _ (List.getElem_mem hlt)
        obtain ⟨p, hp⟩ : ∃ p, p = l[i] := ⟨_, rfl⟩
        rw [← hp] at c0 c1 d2 YES NO1 NO2 NX hsm hps
        have NX := Lib.hid NX
        clear hp
        obtain ⟨C, hC⟩ := chk_ex (okUp p)
        have M : Hid (∀ b, Q w b → Calls Tryz.prog 95 #[upl p (.slice A2 p.L.length c2)] b fun e w' => e = .returned (.bool C) ∧ Q b w') := Lib.hid fun b qb => mayU_any p _ b C hC hsm (hps.on qb)
        rw [upl] at M
        obtain ⟨n, hn⟩ : ∃ n, p.L.length = n := ⟨_, rfl⟩
        rw [hn] at d2 M
        have q3 := q.alloc (.cells #[.int .u64 (p.id : Nat), .string p.key, .slice A2 n c2] 107)
        clear hn hps hsm
        rcases hC with ⟨rfl, hm⟩ | ⟨rfl, hm⟩
        · by_cases hle : p.id ≤ x
          · have HV := Lib.hid (NO2 hm hle)
            have hle' : (p.id : Int) ≤ (x : Int) := by omega
            clear YES NO1 NO2 hm
            go_wp2_with fail
            refine (M.out _ q3).mono ?_
            rintro e w4 ⟨rfl, q4⟩
            obtain ⟨d0, d1, d2⟩ := boxU_of q4
            go_wp2
            go_ret
            exact ⟨by rw [HV.out]; rfl, q3.trans q4⟩
          · have HK2 := Lib.hid (YES hm hle)
            have hle' : ¬ (p.id : Int) ≤ (x : Int) := by omega
            clear YES NO1 NO2 hm
            go_wp2_with fail
            refine (M.out _ q3).mono ?_
            rintro e w4 ⟨rfl, q4⟩
            obtain ⟨d0, d1, d2⟩ := boxU_of q4
            go_wp2
            go_roundw
            case rel => exact ⟨i + 1, p.id, by omega, by go_num, rfl, NX, q3.trans q4, HK2⟩
            case measure => simp [intOf]; omega
        · have HV := Lib.hid (NO1 hm)
          clear YES NO1 NO2 hm
          go_wp2_with fail
          refine (M.out _ q3).mono ?_
          rintro e w4 ⟨rfl, q4⟩
          go_wp2
          go_ret
          exact ⟨by rw [HV.out]; rfl, q3.trans q4⟩
      · have HV := Lib.hid (HR.out.yes ⟨h10, stepL_end fun j h => HK.out j (by omega)⟩)
        have hilt : ¬ (i : Int) < (l.length : Int) := by omega
        go_wp2
        go_ret
        exact ⟨by rw [HV.out]; rfl, q⟩
  · have h10' : (10 : Int) < (l.length : Int) := by omega
    have HV := Lib.hid (HR.out.no (fun o => h10 o.1))
    go_enter Tryz.func47, Tryz.ntmps47
    go_wp2
    go_ret
    exact ⟨by rw [HV.out]; rfl, Q.refl _⟩
end Go.Proofs.YtjjlbbfhmpbneaaGreat

namespace Go.Proofs.YtjjlbbfhmpbneaaGreat
set_option maxRecDepth 100000
open Go.ChangeShapes Go.WideShapes Go.ChangeAt Go.RowKit
set_option linter.unusedVariables false
/-- Block B holds these cells. -/
def Bx (W : World) (B : Nat) (t : TypeId) (cs : Array Value) : Prop := W.heap[B]? = some (.cells cs t (0, 0))
theorem Bx.lt {W : World} {B : Nat} {t : TypeId} {cs : Array Value} (h : Bx W B t cs) : B < W.heap.size := (Array.getElem?_eq_some_iff.1 h).1
theorem Bx.cell {W : World} {B : Nat} {t : TypeId} {cs : Array Value} (h : Bx W B t cs) (i : Nat) : W.cell? ⟨B, i, none⟩ = cs[i]? := by simp [World.cell?, show W.heap[B]? = _ from h]
theorem Bx.frozen {W : World} {B : Nat} {t : TypeId} {cs : Array Value} (h : Bx W B t cs) (i : Nat) : W.frozen? ⟨B, i, none⟩ = false := by simp [World.frozen?, show W.heap[B]? = _ from h]
theorem Bx.new (W : World) (t : TypeId) (cs : Array Value) : Bx (W.alloc (.cells cs t)) W.heap.size t cs := heap_alloc_new W _
theorem Bx.same {W W' : World} {B : Nat} {t : TypeId} {cs : Array Value} (h : Bx W B t cs) (e : W'.heap[B]? = W.heap[B]?) : Bx W' B t cs := e.trans h
theorem Bx.on {W W' : World} {B : Nat} {t : TypeId} {cs : Array Value} (h : Bx W B t cs) (q : Q W W') : Bx W' B t cs := (q.block B h.lt).trans h
theorem Bx.alloc {W : World} {B : Nat} {t : TypeId} {cs : Array Value} (h : Bx W B t cs) (o : Obj) : Bx (W.alloc o) B t cs := h.on ((Q.refl _).alloc o)
theorem Bx.set {W : World} {B : Nat} {t : TypeId} {cs : Array Value} (h : Bx W B t cs) (i : Nat) (u : Value) : Bx (W.setCell ⟨B, i, none⟩ u) B t (cs.setIfInBounds i u) := by
  obtain ⟨hlt, hk⟩ := Array.getElem?_eq_some_iff.1 h
  show (W.heap.modify B _)[B]? = _
  rw [Array.getElem?_eq_getElem (by rw [Array.size_modify]; exact hlt), Array.getElem_modify_self, hk]
  rfl
theorem heap_set (W : World) (B i : Nat) (u : Value) {k : Nat} (h : k ≠ B) : (W.setCell ⟨B, i, none⟩ u).heap[k]? = W.heap[k]? := Below.heap_setCell _ _ _ k (by simpa using h)
theorem Bx.other {W : World} {B B2 : Nat} {t : TypeId} {cs : Array Value} (h : Bx W B t cs) (k : B ≠ B2) (i : Nat) (u : Value) : Bx (W.setCell ⟨B2, i, none⟩ u) B t cs := (heap_set W B2 i u k).trans h
theorem grown_set (W : World) (b i : Nat) (v : Value) : W.grownBy (W.setCell ⟨b, i, none⟩ v) (some b) :=
  ⟨rfl, rfl, rfl, by simp, fun k _ hk => heap_set W b i v (fun e => hk (by rw [e]))⟩
/-- A row of the call's own stays where a block below base is written. -/
theorem ownsRow_set {w : World} {base size n : Nat} {e : TypeId} {v : Value} {xs : List Value} (h : w.ownsRow base e size v n xs) {b i : Nat} {u : Value} (hb : b < base) : (w.setCell ⟨b, i, none⟩ u).ownsRow base e size v n xs := by
  refine World.ownsRow.kept h (grown_set w b i u) ?_
  cases e : v.ownBlock with
  | none => exact .inl rfl
  | some k => refine .inr fun e2 => ?_; injection e2 with e2; have := (World.ownsRow.lt h k e).1; omega
end Go.Proofs.YtjjlbbfhmpbneaaGreat

