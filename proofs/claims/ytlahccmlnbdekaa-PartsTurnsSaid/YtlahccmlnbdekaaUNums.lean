/-
  Slices of tags of one's own (as in the text of stage 4, without that stage's laws).
-/
import Derived.Test.YtlahccmlnbdekaaTRMany
import Derived.Laws.AppendOwnNone
namespace Go.Proofs.Ytlahccmlnbdekaa
open Go.ChangeShapes Go.WideShapes Go.ChangeAt Go.RowKit
set_option linter.unusedVariables false

theorem info_u32 : (Try.prog.info? 28).map (fun i => (i.zero, i.size, i.bytes)) = some (some (.int .u32 0), 1, 4) := by kernel_rfl
/-- Numbers as cells. -/
def u32s (l : List Nat) : List Value := l.map fun n => Value.int .u32 (n : Nat)
theorem u32s_length (l : List Nat) : (u32s l).length = l.length := by simp [u32s]
theorem u32s_append (a b : List Nat) : u32s (a ++ b) = u32s a ++ u32s b := by simp [u32s]
def OwnN (base : Nat) (w : World) (v : Value) (l : List Nat) : Prop := w.ownsRow base 28 1 v l.length (u32s l)
theorem OwnN.nums {base : Nat} {w : World} {v : Value} {l : List Nat} (h : OwnN base w v l) (hl : ∀ n ∈ l, n < 4294967296) : Nums w w.heap.size v l := by
  rcases h.2 with ⟨rfl, h0⟩ | ⟨g, cap, cur, rfl, hb, hg, h1, h2, h3, h4⟩
  · rw [List.length_eq_zero_iff.1 h0]; exact Nums.nil _ _
  · refine ⟨_, _, rfl, h1, (by simp), fun k hk => ⟨⟨g, 0, none⟩, rfl, lt_of_block hg, hl _ (List.getElem_mem hk), ?_⟩⟩
    exact World.ownsRow.cells h (g := g) rfl k _ (by simp [u32s, hk])
theorem OwnN.lit (w : World) : OwnN w.heap.size (w.alloc (.cells #[] 28)) (.slice (some ⟨w.heap.size, 0, none⟩) 0 0) [] :=
  World.ownsRow_lit w #[] 0 (Nat.le_refl _) (by decide) rfl
theorem Nums.take {w : World} {B c : Nat} {a : Addr} {l : List Nat} (h : Nums w B (.slice (some a) l.length c) l) {k : Nat} (hk : k ≤ l.length) : Nums w B (.slice (some a) k c) (l.take k) := by
  obtain ⟨A, c', e, e0, -, f⟩ := h
  simp only [Value.slice.injEq, true_and] at e
  obtain ⟨rfl, rfl⟩ := e
  have hl : (l.take k).length = k := by rw [List.length_take]; omega
  refine ⟨some a, c, by rw [hl], by omega, (by simp), fun i hi => ?_⟩
  obtain ⟨a', e1, e2, e3, e4⟩ := f i (by omega)
  refine ⟨a', e1, e2, ?_, ?_⟩
  · rw [List.getElem_take]; exact e3
  · rw [List.getElem_take]; exact e4
theorem Nums.lt {w : World} {B : Nat} {v : Value} {l : List Nat} (h : Nums w B v l) : ∀ n ∈ l, n < 4294967296 := by
  obtain ⟨A, c, -, -, -, f⟩ := h
  intro n hn
  obtain ⟨i, hi, rfl⟩ := List.getElem_of_mem hn
  obtain ⟨a, -, -, e, -⟩ := f i hi
  exact e
theorem Nums.cells {w : World} {B c n : Nat} {a : Addr} {l : List Nat} (h : Nums w B (.slice (some a) n c) l) : ∀ j u, (u32s l)[j]? = some u → w.cell? (a.add j) = some u := by
  obtain ⟨A, c', e, e0, -, f⟩ := h
  simp only [Value.slice.injEq] at e
  obtain ⟨rfl, -, -⟩ := e
  intro j u hj
  have hj2 : j < l.length := by
    have := (List.getElem?_eq_some_iff.1 hj).1
    rwa [u32s_length] at this
  obtain ⟨a', e1, -, -, e4⟩ := f j hj2
  simp only [Option.some.injEq] at e1
  subst e1
  rw [e4, ← hj]
  simp [u32s, hj2]
theorem u32s_one (l : List Nat) : ∀ u ∈ u32s l, u.oneCell' = true := by
  intro u hu
  simp only [u32s, List.mem_map] at hu
  obtain ⟨n, -, rfl⟩ := hu
  rfl
theorem OwnN.onto {base k : Nat} {w2 : World} {v2 : Value} {L M : List Nat} (h1 : w2.ownsRow base 28 1 v2 (L.length + k) (u32s L ++ u32s M)) (hk : k = M.length) : OwnN base w2 v2 (L ++ M) := by
  subst hk
  unfold OwnN
  rw [u32s_append, List.length_append]
  exact h1
theorem grown_on {base : Nat} {w0 wr w2 : World} {v : Value} {L : List Nat} (hbel : Below base w0 wr) (hb : base ≤ wr.heap.size) (hown : OwnN base wr v L) (h2 : wr.grownBy w2 v.ownBlock) : Below base w0 w2 :=
  hbel.grown h2 hb (fun k hk => (World.ownsRow.lt hown k hk).1)
theorem cell_one (w : World) (x : Value) (t : TypeId) : ∀ j u, [x][j]? = some u → (w.alloc (.cells #[x] t)).cell? ((⟨w.heap.size, 0, none⟩ : Addr).add j) = some u := by
  intro j u hj
  match j, hj with
  | 0, hj => simp at hj; subst hj; simp [Addr.add]
end Go.Proofs.Ytlahccmlnbdekaa
