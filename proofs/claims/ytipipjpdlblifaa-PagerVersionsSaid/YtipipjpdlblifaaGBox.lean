/-
  Boxes of any size; own rows of texts; what an append leaves.
-/
import Derived.Test.YtipipjpdlblifaaGIter
import Derived.Maps.OwnIn
namespace Go.Proofs.Ytipipjpdlblifaa
open Go.ChangeShapes Go.WideShapes Go.ChangeAt Go.RowKit Go.Shelf
set_option linter.unusedVariables false
set_option linter.unusedSimpArgs false

/-- Block B holds these cells. -/
def Bx (W : World) (B : Nat) (t : TypeId) (cs : Array Value) : Prop := W.heap[B]? = some (.cells cs t (0, 0))
theorem Bx.lt {W : World} {B : Nat} {t : TypeId} {cs : Array Value} (h : Bx W B t cs) : B < W.heap.size := (Array.getElem?_eq_some_iff.1 h).1
theorem Bx.cell {W : World} {B : Nat} {t : TypeId} {cs : Array Value} (h : Bx W B t cs) (i : Nat) : W.cell? ⟨B, i, none⟩ = cs[i]? := by simp [World.cell?, show W.heap[B]? = _ from h]
theorem Bx.frozen {W : World} {B : Nat} {t : TypeId} {cs : Array Value} (h : Bx W B t cs) (i : Nat) : W.frozen? ⟨B, i, none⟩ = false := by simp [World.frozen?, show W.heap[B]? = _ from h]
theorem Bx.new (W : World) (t : TypeId) (cs : Array Value) : Bx (W.alloc (.cells cs t)) W.heap.size t cs := World.alloc_heap_new W _
theorem Bx.same {W W' : World} {B : Nat} {t : TypeId} {cs : Array Value} (h : Bx W B t cs) (e : W'.heap[B]? = W.heap[B]?) : Bx W' B t cs := e.trans h
theorem Bx.on {W W' : World} {B : Nat} {t : TypeId} {cs : Array Value} (h : Bx W B t cs) (q : Q W W') : Bx W' B t cs := (q.block B h.lt).trans h
theorem Bx.alloc {W : World} {B : Nat} {t : TypeId} {cs : Array Value} (h : Bx W B t cs) (o : Obj) : Bx (W.alloc o) B t cs := h.on ((Q.refl _).alloc o)
theorem Bx.set {W : World} {B : Nat} {t : TypeId} {cs : Array Value} (h : Bx W B t cs) (i : Nat) (u : Value) : Bx (W.setCell ⟨B, i, none⟩ u) B t (cs.setIfInBounds i u) := by
  obtain ⟨hlt, hk⟩ := Array.getElem?_eq_some_iff.1 h
  show (W.heap.modify B _)[B]? = _
  rw [Array.getElem?_eq_getElem (by rw [Array.size_modify]; exact hlt), Array.getElem_modify_self, hk]
  rfl
theorem heap_set (W : World) (B i : Nat) (u : Value) {k : Nat} (h : k ≠ B) : (W.setCell ⟨B, i, none⟩ u).heap[k]? = W.heap[k]? := Below.heap_setCell _ _ _ k (by simpa using h)
theorem Bx.other {W : World} {B B2 : Nat} {t : TypeId} {cs : Array Value} (h : Bx W B t cs) (k : B ≠ B2) (i : Nat) (u : Value) : Bx (W.setCell ⟨B2, i, none⟩ u) B t cs := (heap_set W B2 i u k).trans h
theorem grown_set (W : World) (b i : Nat) (v : Value) : W.grownBy (W.setCell ⟨b, i, none⟩ v) (some b) :=
  ⟨rfl, rfl, rfl, (KeepsWalks.setCell W _ v).size, fun k _ hk => heap_set W b i v (fun e => hk (by rw [e]))⟩
/-- 'The box holds these cells' speaks of cells alone. -/
theorem bx_own {β : Type} (B : Nat) (t : TypeId) (f : β → Array Value) : Own (fun s W => Bx W B t (f s)) := fun s X Y row hs hg hrow =>
  (hg.block B (Bx.lt hs) (fun e' => by obtain ⟨o, ho, hc⟩ := hrow B e'.symm; rw [show X.heap[B]? = _ from hs] at ho; cases ho; cases hc)).trans hs

theorem info_str : (Try.prog.info? 9).map (fun i => (i.zero, i.size, i.bytes)) = some (some (.string ⟨#[]⟩), 1, 16) := by kernel_rfl
/-- v is a row of the call's own, from block base on, of these texts. -/
def RowS (base : Nat) (w : World) (v : Value) (l : List ByteArray) : Prop := w.ownsRow base 9 1 v l.length (l.map Value.string)
theorem RowS.nil (base : Nat) (w : World) : RowS base w (.slice none 0 0) [] := World.ownsRow_nil w _ _ _
theorem RowS.on {base : Nat} {w w' : World} {v : Value} {l : List ByteArray} (h : RowS base w v l) (q : Q w w') : RowS base w' v l := by
  unfold RowS at *
  exact h.kept q.grown (by cases v.ownBlock <;> simp)
theorem RowS.form {base : Nat} {w : World} {v : Value} {l : List ByteArray} (h : RowS base w v l) : ∃ A c, v = .slice A l.length c := by
  rcases h.2 with ⟨rfl, h0⟩ | ⟨g, cap, cur, rfl, -⟩
  · exact ⟨none, 0, by rw [h0]⟩
  · exact ⟨_, _, rfl⟩
theorem RowS.form2 {base : Nat} {w : World} {v : Value} {l : List ByteArray} (h : RowS base w v l) : ∃ A c, v = .slice A l.length c ∧ ∀ a, A = some a → base ≤ a.block := by
  rcases h.2 with ⟨rfl, h0⟩ | ⟨g, cap, cur, rfl, hb, -⟩
  · exact ⟨none, 0, by rw [h0], by simp⟩
  · exact ⟨_, _, rfl, fun a e => by injection e with e; rw [← e]; exact hb⟩
theorem RowS.txts {base : Nat} {w : World} {v : Value} {l : List ByteArray} (h : RowS base w v l) : Txts w w.heap.size v l := Txts.own h
theorem RowS.lt {base : Nat} {w : World} {v : Value} {l : List ByteArray} (h : RowS base w v l) : ∀ k, v.ownBlock = some k → base ≤ k ∧ k < w.heap.size := World.ownsRow.lt h
theorem rowS_own {β : Type} (base : Nat) (v : β → Value) (f : β → List ByteArray) : Own (fun s W => RowS base W (v s) (f s)) := by
  rintro s X Y row hr hg hrow
  refine World.ownsRow.kept hr hg ?_
  rcases hr.2 with ⟨e, _⟩ | ⟨g, cap, cur, e, _, hgb, _⟩
  · left; rw [e]; rfl
  · refine .inr fun e' => ?_
    rw [e] at e'
    obtain ⟨o, ho, hc⟩ := hrow g (by simpa [Value.ownBlock] using e'.symm)
    rw [hgb] at ho; cases ho; cases hc
theorem RowS.set {base : Nat} {w : World} {v : Value} {l : List ByteArray} (h : RowS base w v l) {b i : Nat} {u : Value} (hb : b < base) : RowS base (w.setCell ⟨b, i, none⟩ u) v l := by
  refine World.ownsRow.kept h (grown_set w b i u) ?_
  cases e : v.ownBlock with
  | none => exact .inl rfl
  | some k => refine .inr fun e2 => ?_; injection e2 with e2; have := (h.lt k e).1; omega
/-- Two rows do not lie in one block. -/
def Two (v u : Value) : Prop := ∀ k, v.ownBlock = some k → u.ownBlock ≠ some k
/-- What an append leaves. -/
theorem rowS_more {base : Nat} {W w1 : World} {v v' : Value} {l : List ByteArray} {x : ByteArray} {tmp : Obj} (hr : RowS base W v l) (hb : base ≤ W.heap.size)
    (hown : w1.ownsRow base 9 1 v' (l.length + 1) (l.map Value.string ++ [Value.string x])) (hg : (W.alloc tmp).grownBy w1 v.ownBlock) :
    RowS base w1 v' (l ++ [x]) ∧ (∀ k, k < base → w1.heap[k]? = W.heap[k]?) ∧ KeepsOthers W w1 ∧ Below base W w1 := by
  have hlow : ∀ k, k < base → w1.heap[k]? = W.heap[k]? := fun k hk =>
    (hg.block k (by simp; omega) (fun e => by have := (hr.lt k e.symm).1; omega)).trans (Below.heap_alloc W tmp k (by omega))
  refine ⟨by unfold RowS; rw [List.length_append, List.length_singleton, List.map_append, List.map_singleton]; exact hown, hlow, ?_, ?_⟩
  · refine (KeepsOthers.alloc W tmp).trans (KeepsOthers.of_grownBy hg fun j o ej hj => ?_)
    rcases (World.ownsRow.alloc hr tmp).2 with ⟨rfl, _⟩ | ⟨g, cap, cur, rfl, _, hgb, _⟩
    · simp [Value.ownBlock] at ej
    · obtain rfl : g = j := by simpa [Value.ownBlock] using ej
      rw [hgb] at hj; cases hj; rfl
  · exact ((Below.refl base W).alloc hb tmp).grown hg (by simp; omega) fun j ej => (hr.lt j ej).1
theorem rowS_two {base : Nat} {W w1 : World} {v v' u : Value} {m : List ByteArray} {tmp : Obj} (hu : RowS base W u m) (ht : Two v u)
    (hat : v'.ownBlock = v.ownBlock ∨ v'.ownBlock = some (W.alloc tmp).heap.size) (hg : (W.alloc tmp).grownBy w1 v.ownBlock) : RowS base w1 u m ∧ Two v' u := by
  refine ⟨World.ownsRow.kept (World.ownsRow.alloc hu tmp) hg ?_, fun k e e2 => ?_⟩
  · cases e : u.ownBlock with
    | none => exact .inl rfl
    | some k => refine .inr fun e2 => ?_; exact ht k e2.symm e
  · rcases hat with h | h
    · exact ht k (by rw [← h]; exact e) e2
    · rw [h] at e; injection e with e; have := (hu.lt k e2).2; simp at e; omega
theorem Two.symm {v u : Value} (h : Two v u) : Two u v := fun k e e2 => h k e2 e
end Go.Proofs.Ytipipjpdlblifaa
