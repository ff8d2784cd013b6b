/-
  How losses, tears and looks that come in are opened.
-/
import Derived.Test.YteoondmakdghhaaNm
namespace Go.Proofs.Yteoondmakdghhaa
set_option maxRecDepth 100000
open Go.ChangeShapes Go.WideShapes Go.ChangeAt Go.RowKit
set_option linter.unusedVariables false
set_option linter.unusedSimpArgs false
set_option maxRecDepth 100000
theorem ints_cell {H : Type} {enc : TypeId × Value → H} {W : World} {n : Nat} {v : Value} {y : DataW H × List MemPlace}
    (hf : DataW.trod enc Try.prog W 0 (fun _ => true) true n 25 [v] = some y) : ∃ l : List Int, Ints W W.heap.size v l ∧ l.length ≤ maxLen := by
  rcases Deep.open_slice Try.underlying25 hf with ⟨hcs, hx⟩ | ⟨a, len', cap', m, n, D, Pl, hcs, _, hl, hm, hmm, hx, hel⟩
  · simp at hcs
    subst hcs
    exact ⟨[], Ints.nil _ _, by simp⟩
  · simp at hcs
    subst hcs
    have c0 : Try.prog.cellsOf 3 = 1 := by kernel_rfl
    have each : ∀ i, i < len' → ∃ x : Int, okI64 x ∧ W.cell? (a.add i) = some (.int .i64 x) := by
      intro i hi
      obtain ⟨cs', h1, h2⟩ := hel i (by rw [hmm]; simp; omega)
      rw [c0] at h1
      obtain ⟨-, hlen1, hcell⟩ := World.cells?_some h1
      obtain ⟨s, e, -, ws⟩ := DataW.trod_int Try.underlying3 h2
      subst e
      refine ⟨s, wf64 ws, ?_⟩
      have h0 : (a.add i).add 0 = a.add i := by simp [Addr.add]
      have := hcell 0 (by omega)
      rw [Nat.mul_one, h0] at this
      exact this
    obtain ⟨l, hlen, hp⟩ := list_of len' each
    refine ⟨l, ⟨some a, cap', by rw [hlen], fun x hx => ?_, fun k hk => ⟨a, rfl, ?_, (hp k hk).2⟩⟩, by omega⟩
    · obtain ⟨k, hk, rfl⟩ := List.getElem_of_mem hx
      exact (hp k hk).1
    · have := World.block_lt_of_cell? W _ (hp k hk).2
      rw [add_block] at this; exact this
def lsV (l : Ls) (u : Value) : Value := .agg #[u, .int .i64 l.zone, .int .i64 l.cut]
def okL (l : Ls) : Prop := l.keep.length ≤ maxLen ∧ okI64 l.zone ∧ okI64 l.cut
theorem trod_ls {H : Type} {enc : TypeId × Value → H} {W : World} {n : Nat} {cs : List Value} {y : DataW H × List MemPlace} (hl : cs.length = 3)
    (hf : DataW.trod enc Try.prog W 0 (fun _ => true) true n 27 cs = some y) :
    ∃ (l : Ls) (u : Value), cs = [u, .int .i64 l.zone, .int .i64 l.cut] ∧ Ints W W.heap.size u l.keep ∧ okL l := by
  obtain ⟨v0, v1, v2, rfl⟩ : ∃ a b c, cs = [a, b, c] := by
    match cs, hl with
    | [a, b, c], _ => exact ⟨a, b, c, rfl⟩
  obtain ⟨xs, n', _, _, hl0, hlen, hg⟩ := DataW.trod_struct Try.underlying27 hf
  have hlen3 : xs.length = 3 := hlen
  have c0 : Try.prog.cellsOf 25 = 1 := by kernel_rfl
  have c1 : Try.prog.cellsOf 3 = 1 := by kernel_rfl
  have g0 := hg 0 _ rfl
  have g1 := hg 1 _ rfl
  have g2 := hg 2 _ rfl
  rw [List.getElem?_eq_getElem (by omega)] at g0 g1 g2
  simp [c0, c1] at g0 g1 g2
  obtain ⟨b, hb, mb⟩ := ints_cell g0
  obtain ⟨s1, e1, -, w1⟩ := DataW.trod_int Try.underlying3 g1
  obtain ⟨s2, e2, -, w2⟩ := DataW.trod_int Try.underlying3 g2
  simp at e1 e2
  subst e1 e2
  exact ⟨⟨b, s1, s2⟩, v0, rfl, hb, mb, wf64 w1, wf64 w2⟩
theorem open_ls {H : Type} {enc : TypeId × Value → H} {W : World} {b0 : Nat} {v : Value} {d : DataW H} {p : List MemPlace} (hv : Value.okWide Try.prog W .any b0 27 v)
    (h : DataW.Trod enc Try.prog W 0 (fun _ => true) true 27 v d p) : ∃ (l : Ls) (u : Value), v = lsV l u ∧ Ints W W.heap.size u l.keep ∧ okL l := by
  obtain ⟨cs, rfl, hsz⟩ := okWide_struct Try.underlying27 hv
  have h3 : Try.prog.cellsOf 27 = 3 := by kernel_rfl
  rw [h3] at hsz
  obtain ⟨fuel, hf⟩ := h
  obtain ⟨l, u, e, hi, ok⟩ := trod_ls (cs := cs.toList) (by simpa using hsz) hf
  exact ⟨l, u, by rw [lsV, ← e], hi, ok⟩
/-- A tear, as a plain value. -/
structure Tr where
  c : Nat
  many : Nat
  keep : Nat
  cut : Int
def trV (x : Tr) : Value := .agg #[.int .u8 (x.c : Nat), .int .u8 (x.many : Nat), .int .u8 (x.keep : Nat), .int .i64 x.cut]
def okT (x : Tr) : Prop := x.c < 256 ∧ x.many < 256 ∧ x.keep < 256 ∧ okI64 x.cut
theorem open_tr {H : Type} {enc : TypeId × Value → H} {W : World} {b0 : Nat} {v : Value} {d : DataW H} {p : List MemPlace} (hv : Value.okWide Try.prog W .any b0 55 v)
    (h : DataW.Trod enc Try.prog W 0 (fun _ => true) true 55 v d p) : ∃ x : Tr, v = trV x ∧ okT x := by
  obtain ⟨cs, rfl, hsz⟩ := okWide_struct Try.underlying55 hv
  have h4 : Try.prog.cellsOf 55 = 4 := by kernel_rfl
  rw [h4] at hsz
  obtain ⟨v0, v1, v2, v3, rfl⟩ : ∃ a b c d, cs = #[a, b, c, d] := by
    obtain ⟨l⟩ := cs
    match l, hsz with
    | [a, b, c, d], _ => exact ⟨a, b, c, d, rfl⟩
  obtain ⟨fuel, hf⟩ := h
  obtain ⟨xs, n, _, _, hl0, hlen, hg⟩ := DataW.trod_struct Try.underlying55 hf
  have hlen4 : xs.length = 4 := hlen
  have c0 : Try.prog.cellsOf 5 = 1 := by kernel_rfl
  have c1 : Try.prog.cellsOf 3 = 1 := by kernel_rfl
  have g0 := hg 0 _ rfl
  have g1 := hg 1 _ rfl
  have g2 := hg 2 _ rfl
  have g3 := hg 3 _ rfl
  rw [List.getElem?_eq_getElem (by omega)] at g0 g1 g2 g3
  simp [Value.cells, c0, c1] at g0 g1 g2 g3
  obtain ⟨s0, e0, -, w0⟩ := DataW.trod_int Try.underlying5 g0
  obtain ⟨s1, e1, -, w1⟩ := DataW.trod_int Try.underlying5 g1
  obtain ⟨s2, e2, -, w2⟩ := DataW.trod_int Try.underlying5 g2
  obtain ⟨s3, e3, -, w3⟩ := DataW.trod_int Try.underlying3 g3
  simp at e0 e1 e2 e3
  subst e0 e1 e2 e3
  obtain ⟨n0, rfl, k0⟩ := wfu8 w0
  obtain ⟨n1, rfl, k1⟩ := wfu8 w1
  obtain ⟨n2, rfl, k2⟩ := wfu8 w2
  exact ⟨⟨n0, n1, n2, s3⟩, rfl, k0, k1, k2, wf64 w3⟩
/-- What is small by what may be. -/
theorem may_sm {d : Dv} (h : mayD d = true) : smD d := by
  obtain ⟨h1, h2, h3, h4, h5, h6, h7, h8, h9⟩ := mayD_iff.1 h
  refine ⟨by omega, fun z hz => ?_⟩
  have := (okZn_iff.1 (h8 z hz)).1
  omega
end Go.Proofs.Yteoondmakdghhaa

