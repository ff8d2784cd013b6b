/-
  How a Turn, and a slice of Acts, are opened.
-/
import Derived.Test.YtflfhigldkdlmaaVBlk
namespace Go.Proofs.Ytflfhigldkdlmaa
open Go.ChangeShapes Go.WideShapes Go.ChangeAt Go.RowKit
set_option linter.unusedVariables false
set_option linter.unusedSimpArgs false

theorem vers_cell {H : Type} {enc : TypeId × Value → H} {W : World} {n : Nat} {v : Value} {y : DataW H × List MemPlace}
    (hf : DataW.trod enc Try.prog W 0 (fun _ => true) true n 22 [v] = some y) : ∃ l : List Ver, Vers W W.heap.size v l ∧ l.length ≤ maxLen := by
  rcases Deep.open_slice Try.underlying22 hf with ⟨hcs, hx⟩ | ⟨a, len', cap', m, n, D, Pl, hcs, _, hl, hm, hmm, hx, hel⟩
  · simp at hcs
    subst hcs
    exact ⟨[], Vers.nil _ _, by simp⟩
  · simp at hcs
    subst hcs
    have each : ∀ i, i < len' → ∃ x : Ver, okV x ∧ At W (a.add (i * 4)) x := by
      intro i hi
      obtain ⟨cs', h1, h2⟩ := hel i (by rw [hmm]; simp; omega)
      rw [cells_ver] at h1
      obtain ⟨-, hlen4, hcell⟩ := World.cells?_some h1
      obtain ⟨y0, y1, y2, y3, n', -, -, g0, g1, g2, g3⟩ := Joins.trod_struct4 Try.underlying25 h2
      obtain ⟨v0, v1, v2, v3, rfl⟩ : ∃ a b c d, cs' = [a, b, c, d] := by
        match cs', hlen4 with
        | [a, b, c, d], _ => exact ⟨a, b, c, d, rfl⟩
      have c0 : Try.prog.cellsOf 23 = 1 := by kernel_rfl
      have c1 : Try.prog.cellsOf 9 = 1 := by kernel_rfl
      have c2 : Try.prog.cellsOf 4 = 1 := by kernel_rfl
      have c3 : Try.prog.cellsOf 3 = 1 := by kernel_rfl
      simp [c0, c1, c2, c3] at g0 g1 g2 g3
      obtain ⟨i', e0, -, w0⟩ := DataW.trod_int Try.underlying23 g0
      obtain ⟨s', e1, -, w1⟩ := DataW.trod_string Try.underlying9 g1
      obtain ⟨m', e2, -⟩ := DataW.trod_bool Try.underlying4 g2
      obtain ⟨t', e3, -, w3⟩ := DataW.trod_int Try.underlying3 g3
      simp at e0 e1 e2 e3
      subst e0 e1 e2 e3
      obtain ⟨i', rfl, hi'⟩ := wfu64 w0
      refine ⟨⟨i', s', m', t'⟩, ⟨hi', w1, wf64 w3⟩, ?_, ?_, ?_, ?_⟩
      · exact hcell 0 (by omega)
      · exact (congrArg W.cell? (add_pos _ (by omega : 0 < 1)).symm).trans (hcell 1 (by omega))
      · exact (congrArg W.cell? (add_pos _ (by omega : 0 < 2)).symm).trans (hcell 2 (by omega))
      · exact (congrArg W.cell? (add_pos _ (by omega : 0 < 3)).symm).trans (hcell 3 (by omega))
    obtain ⟨l, hlen, hp⟩ := list_of len' each
    refine ⟨l, ⟨some a, cap', by rw [hlen], by omega, (by simp), ?_, fun k hk => ⟨a, rfl, ?_, (hp k hk).2⟩⟩, by omega⟩
    · intro x hx
      obtain ⟨k, hk, rfl⟩ := List.getElem_of_mem hx
      exact (hp k hk).1
    · have := World.block_lt_of_cell? W _ (hp k hk).2.1
      rw [add_block] at this; exact this
theorem ver_cells {H : Type} {enc : TypeId × Value → H} {W : World} {n : Nat} {v0 v1 v2 v3 : Value} {y : DataW H × List MemPlace}
    (h2 : DataW.trod enc Try.prog W 0 (fun _ => true) true n 25 [v0, v1, v2, v3] = some y) : ∃ x : Ver, okV x ∧ v0 = .int .u64 (x.id : Nat) ∧ v1 = .string x.data ∧ v2 = .bool x.mark ∧ v3 = .int .i64 x.tm := by
  obtain ⟨y0, y1, y2, y3, n', -, -, g0, g1, g2, g3⟩ := Joins.trod_struct4 Try.underlying25 h2
  have c0 : Try.prog.cellsOf 23 = 1 := by kernel_rfl
  have c1 : Try.prog.cellsOf 9 = 1 := by kernel_rfl
  have c2 : Try.prog.cellsOf 4 = 1 := by kernel_rfl
  have c3 : Try.prog.cellsOf 3 = 1 := by kernel_rfl
  simp [c0, c1, c2, c3] at g0 g1 g2 g3
  obtain ⟨i', e0, -, w0⟩ := DataW.trod_int Try.underlying23 g0
  obtain ⟨s', e1, -, w1⟩ := DataW.trod_string Try.underlying9 g1
  obtain ⟨m', e2, -⟩ := DataW.trod_bool Try.underlying4 g2
  obtain ⟨t', e3, -, w3⟩ := DataW.trod_int Try.underlying3 g3
  simp at e0 e1 e2 e3
  obtain ⟨i'', rfl, hi'⟩ := wfu64 w0
  exact ⟨⟨i'', s', m', t'⟩, ⟨hi', w1, wf64 w3⟩, e0, e1, e2, e3⟩
theorem u64_cell {H : Type} {enc : TypeId × Value → H} {W : World} {n : Nat} {v : Value} {y : DataW H × List MemPlace}
    (hf : DataW.trod enc Try.prog W 0 (fun _ => true) true n 23 [v] = some y) : ∃ k : Nat, v = .int .u64 (k : Nat) := by
  obtain ⟨i', e0, -, w0⟩ := DataW.trod_int Try.underlying23 hf
  simp at e0
  obtain ⟨k, rfl, -⟩ := wfu64 w0
  exact ⟨k, e0⟩
/-- A Turn, opened. -/
theorem open_turn {H : Type} {enc : TypeId × Value → H} {W : World} {b0 : Nat} {v : Value} {d : DataW H} {p : List MemPlace} (hv : Value.okWide Try.prog W .any b0 55 v)
    (h : DataW.Trod enc Try.prog W 0 (fun _ => true) true 55 v d p) :
    ∃ (u : Value) (l : List Ver) (a b : Nat) (x : Ver), v = .agg #[u, .int .u64 (a : Nat), .int .u64 (b : Nat), .int .u64 (x.id : Nat), .string x.data, .bool x.mark, .int .i64 x.tm] ∧ Vers W W.heap.size u l ∧ l.length ≤ maxLen ∧ okV x := by
  obtain ⟨cs, rfl, hsz⟩ := okWide_struct Try.underlying55 hv
  have h7 : Try.prog.cellsOf 55 = 7 := by kernel_rfl
  rw [h7] at hsz
  obtain ⟨v0, v1, v2, v3, v4, v5, v6, rfl⟩ : ∃ a b c d e f g, cs = #[a, b, c, d, e, f, g] := by
    obtain ⟨l⟩ := cs
    match l, hsz with
    | [a, b, c, d, e, f, g], _ => exact ⟨a, b, c, d, e, f, g, rfl⟩
  obtain ⟨fuel, hf⟩ := h
  obtain ⟨y0, y1, y2, y3, n', -, -, g0, g1, g2, g3⟩ := Joins.trod_struct4 Try.underlying55 hf
  have c0 : Try.prog.cellsOf 23 = 1 := by kernel_rfl
  have c1 : Try.prog.cellsOf 22 = 1 := by kernel_rfl
  have c2 : Try.prog.cellsOf 25 = 4 := cells_ver
  simp [Value.cells, c0, c1, c2] at g0 g1 g2 g3
  obtain ⟨l, hl, hm⟩ := vers_cell g0
  obtain ⟨a, rfl⟩ := u64_cell g1
  obtain ⟨b, rfl⟩ := u64_cell g2
  obtain ⟨x, hx, rfl, rfl, rfl, rfl⟩ := ver_cells g3
  exact ⟨v0, l, a, b, x, rfl, hl, hm, hx⟩

/-- An Act. -/
structure Act' where
  st : Nat
  del : Bool
  data : ByteArray
def AtA (w : World) (p : Addr) (x : Act') : Prop :=
  w.cell? p = some (.int .u8 (x.st : Nat)) ∧ w.cell? ⟨p.block, p.off + 1, none⟩ = some (.bool x.del) ∧ w.cell? ⟨p.block, p.off + 2, none⟩ = some (.string x.data)
def okA (x : Act') : Prop := x.st < 256 ∧ x.data.size ≤ maxLen
def Acts (w : World) (B : Nat) (v : Value) (l : List Act') : Prop :=
  ∃ A c, v = .slice A l.length c ∧ (∀ x ∈ l, okA x) ∧ ∀ k (h : k < l.length), ∃ a : Addr, A = some a ∧ a.block < B ∧ AtA w (a.add (k * 3)) l[k]
theorem AtA.keep {w w' : World} {p : Addr} {x : Act'} (h : AtA w p x) {B : Nat} (hp : p.block < B) (k : ∀ p : Addr, p.block < B → w'.cell? p = w.cell? p) : AtA w' p x :=
  ⟨(k p hp).trans h.1, (k ⟨p.block, p.off + 1, none⟩ hp).trans h.2.1, (k ⟨p.block, p.off + 2, none⟩ hp).trans h.2.2⟩
theorem wfu8 {a : Int} (h : (Lit.int .u8 a).wf = true) : ∃ n : Nat, a = n ∧ n < 256 := by
  have h2 : 0 ≤ a ∧ a ≤ 255 := by simpa [Lit.wf, IntKind.min, IntKind.max, IntKind.signed, IntKind.bits] using h
  exact ⟨a.toNat, by omega, by omega⟩
theorem open_acts {H : Type} {enc : TypeId × Value → H} {W : World} {b : Nat} {v : Value} {d : DataW H} {p : List MemPlace} (hv : Value.okWide Try.prog W .any b 49 v)
    (h : DataW.Trod enc Try.prog W 0 (fun _ => true) true 49 v d p) : ∃ l : List Act', Acts W W.heap.size v l ∧ l.length ≤ maxLen := by
  obtain ⟨a0, len, cap, rfl⟩ := okWide_slice Try.underlying49 hv
  obtain ⟨fuel, hf⟩ := h
  have h3 : Try.prog.cellsOf 52 = 3 := by kernel_rfl
  rcases Deep.open_slice Try.underlying49 hf with ⟨hcs, hx⟩ | ⟨a, len', cap', m, n, D, Pl, hcs, _, hl, hm, hmm, hx, hel⟩
  · simp [Value.cells] at hcs
    obtain ⟨rfl, rfl, rfl⟩ := hcs
    exact ⟨[], ⟨none, 0, rfl, by simp, fun k h => absurd h (by simp)⟩, by simp⟩
  · simp [Value.cells] at hcs
    obtain ⟨rfl, rfl, rfl⟩ := hcs
    have each : ∀ i, i < len → ∃ x : Act', okA x ∧ AtA W (a.add (i * 3)) x := by
      intro i hi
      obtain ⟨cs', h1, h2⟩ := hel i (by rw [hmm]; simp; omega)
      rw [h3] at h1
      obtain ⟨-, hlen4, hcell⟩ := World.cells?_some h1
      obtain ⟨y0, y1, y2, n', -, -, g0, g1, g2⟩ := Deep.trod_struct3 Try.underlying52 h2
      obtain ⟨v0, v1, v2, rfl⟩ : ∃ a b c, cs' = [a, b, c] := by
        match cs', hlen4 with
        | [a, b, c], _ => exact ⟨a, b, c, rfl⟩
      have c0 : Try.prog.cellsOf 5 = 1 := by kernel_rfl
      have c1 : Try.prog.cellsOf 9 = 1 := by kernel_rfl
      have c2 : Try.prog.cellsOf 4 = 1 := by kernel_rfl
      simp [c0, c1, c2] at g0 g1 g2
      obtain ⟨i', e0, -, w0⟩ := DataW.trod_int Try.underlying5 g0
      obtain ⟨m', e1, -⟩ := DataW.trod_bool Try.underlying4 g1
      obtain ⟨s', e2, -, w2⟩ := DataW.trod_string Try.underlying9 g2
      simp at e0 e1 e2
      subst e0 e1 e2
      obtain ⟨i', rfl, hi'⟩ := wfu8 w0
      refine ⟨⟨i', m', s'⟩, ⟨hi', w2⟩, ?_, ?_, ?_⟩
      · exact hcell 0 (by omega)
      · exact (congrArg W.cell? (add_pos _ (by omega : 0 < 1)).symm).trans (hcell 1 (by omega))
      · exact (congrArg W.cell? (add_pos _ (by omega : 0 < 2)).symm).trans (hcell 2 (by omega))
    obtain ⟨l, hlen, hp⟩ := list_of len each
    refine ⟨l, ⟨some a, cap, by rw [hlen], ?_, fun k hk => ⟨a, rfl, ?_, (hp k hk).2⟩⟩, by omega⟩
    · intro x hx
      obtain ⟨k, hk, rfl⟩ := List.getElem_of_mem hx
      exact (hp k hk).1
    · have := World.block_lt_of_cell? W _ (hp k hk).2.1
      rw [add_block] at this; exact this
end Go.Proofs.Ytflfhigldkdlmaa
