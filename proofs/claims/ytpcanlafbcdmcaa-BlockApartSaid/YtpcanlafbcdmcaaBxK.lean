/-
  Boxes as whole blocks; what leaves all but one block as it is.
-/
import Derived.Test.YtpcanlafbcdmcaaCore
import Derived.Maps.OwnIn
namespace Go.Proofs.Ytpcanlafbcdmcaa
set_option maxRecDepth 100000
open Go.ChangeShapes Go.WideShapes Go.ChangeAt Go.RowKit
set_option linter.unusedVariables false
set_option linter.unusedSimpArgs false

/-- Block B holds these cells. -/
def Bx (W : World) (B : Nat) (t : TypeId) (cs : Array Value) : Prop := W.heap[B]? = some (.cells cs t (0, 0))
theorem Bx.lt {W : World} {B : Nat} {t : TypeId} {cs : Array Value} (h : Bx W B t cs) : B < W.heap.size := (Array.getElem?_eq_some_iff.1 h).1
theorem Bx.cell {W : World} {B : Nat} {t : TypeId} {cs : Array Value} (h : Bx W B t cs) (i : Nat) : W.cell? ⟨B, i, none⟩ = cs[i]? := by simp [World.cell?, show W.heap[B]? = _ from h]
theorem Bx.frozen {W : World} {B : Nat} {t : TypeId} {cs : Array Value} (h : Bx W B t cs) (i : Nat) : W.frozen? ⟨B, i, none⟩ = false := by simp [World.frozen?, show W.heap[B]? = _ from h]
theorem Bx.new (W : World) (t : TypeId) (cs : Array Value) : Bx (W.alloc (.cells cs t)) W.heap.size t cs := heap_alloc_new W _
theorem Bx.same {W W' : World} {B : Nat} {t : TypeId} {cs : Array Value} (h : Bx W B t cs) (e : W'.heap[B]? = W.heap[B]?) : Bx W' B t cs := e.trans h
theorem Bx.on {W W' : World} {B : Nat} {t : TypeId} {cs : Array Value} (h : Bx W B t cs) (q : Q W W') : Bx W' B t cs := (q.block B h.lt).trans h
theorem Bx.alloc {W : World} {B : Nat} {t : TypeId} {cs : Array Value} (h : Bx W B t cs) (o : Obj) : Bx (W.alloc o) B t cs := h.on ((Q.refl _).alloc o)
theorem Bx.set {W : World} {B : Nat} {t : TypeId} {cs : Array Value} (h : Bx W B t cs) (i : Nat) (u : Value) : Bx (W.setCell ⟨B, i, none⟩ u) B t (cs.setIfInBounds i u) := by
  obtain ⟨hlt, hk⟩ := Array.getElem?_eq_some_iff.1 h
  show (W.heap.modify B _)[B]? = _
  rw [Array.getElem?_eq_getElem (by rw [Array.size_modify]; exact hlt), Array.getElem_modify_self, hk]
  rfl
theorem heap_set (W : World) (B i : Nat) (u : Value) {k : Nat} (h : k ≠ B) : (W.setCell ⟨B, i, none⟩ u).heap[k]? = W.heap[k]? := Below.heap_setCell _ _ _ k (by simpa using h)
theorem Bx.other {W : World} {B B2 : Nat} {t : TypeId} {cs : Array Value} (h : Bx W B t cs) (k : B ≠ B2) (i : Nat) (u : Value) : Bx (W.setCell ⟨B2, i, none⟩ u) B t cs := (heap_set W B2 i u k).trans h
theorem grown_set (W : World) (b i : Nat) (v : Value) : W.grownBy (W.setCell ⟨b, i, none⟩ v) (some b) :=
  ⟨rfl, rfl, rfl, by simp, fun k _ hk => heap_set W b i v (fun e => hk (by rw [e]))⟩
/-- A row of the call's own stays where a block below base is written. -/
theorem ownsRow_set {w : World} {base size n : Nat} {e : TypeId} {v : Value} {xs : List Value} (h : w.ownsRow base e size v n xs) {b i : Nat} {u : Value} (hb : b < base) : (w.setCell ⟨b, i, none⟩ u).ownsRow base e size v n xs := by
  refine World.ownsRow.kept h (grown_set w b i u) ?_
  cases e : v.ownBlock with
  | none => exact .inl rfl
  | some k => refine .inr fun e2 => ?_; injection e2 with e2; have := (World.ownsRow.lt h k e).1; omega
/-- Nothing that was there has changed, but block p. -/
def Kp (p : Nat) (w w' : World) : Prop := w.grownBy w' (some p)
theorem Kp.of {p : Nat} {w w' : World} (q : Q w w') : Kp p w w' := ⟨q.os, q.tape, q.output, q.size, fun k hk _ => q.block k hk⟩
theorem Kp.trans {p : Nat} {a b c : World} (h : Kp p a b) (k : Kp p b c) : Kp p a c :=
  ⟨k.os.trans h.os, k.tape.trans h.tape, k.output.trans h.output, Nat.le_trans h.size k.size, fun i hi hn => (k.block i (Nat.lt_of_lt_of_le hi h.size) hn).trans (h.block i hi hn)⟩
theorem Kp.set {p : Nat} {a b : World} (h : Kp p a b) (i : Nat) (u : Value) : Kp p a (b.setCell ⟨p, i, none⟩ u) := h.trans (grown_set b p i u)
theorem Kp.q {p : Nat} {w0 w w' : World} (q : Q w0 w) (h : Kp p w w') (hp : w0.heap.size ≤ p) : Q w0 w' :=
  Below.grown q h q.size (fun k e => by injection e with e; omega)
theorem Kp.bx {p B : Nat} {w w' : World} {t : TypeId} {cs : Array Value} (h : Kp p w w') (b : Bx w B t cs) (hn : B ≠ p) : Bx w' B t cs :=
  b.same (h.block B b.lt (fun e => hn (by injection e)))

end Go.Proofs.Ytpcanlafbcdmcaa
