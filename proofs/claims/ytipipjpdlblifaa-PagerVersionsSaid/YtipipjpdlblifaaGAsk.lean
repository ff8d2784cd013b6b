/-
  What is asked for: how it is opened, and cut.
-/
import Derived.Test.YtipipjpdlblifaaGNo
import Derived.Deep.RegionLaw
import Derived.Deep.RegionWith
namespace Go.Proofs.Ytipipjpdlblifaa
open Go.ChangeShapes Go.WideShapes Go.ChangeAt Go.RowKit
set_option linter.unusedVariables false
set_option linter.unusedSimpArgs false

theorem array6 {α : Type} {cs : Array α} (h : cs.size = 6) : ∃ a b c d e f, cs = #[a, b, c, d, e, f] := by
  obtain ⟨l⟩ := cs
  match l, h with
  | [a, b, c, d, e, f], _ => exact ⟨a, b, c, d, e, f, rfl⟩
theorem open_ask {H : Type} {enc : TypeId × Value → H} {W : World} {b0 : Nat} {v : Value} {d : DataW H} {p : List MemPlace} (hv : Value.okWide Try.prog W .any b0 25 v)
    (h : DataW.Trod enc Try.prog W 0 (fun _ => true) true 25 v d p) :
    ∃ (u : Value) (l : List Ent) (pp dd key : ByteArray) (id : Nat) (m : Int), v = .agg #[u, .string pp, .string dd, .string key, .int .u64 (id : Nat), .int .i64 m] ∧ Ents W W.heap.size u l ∧ l.length ≤ maxLen ∧ pp.size ≤ maxLen ∧ dd.size ≤ maxLen ∧ key.size ≤ maxLen ∧ id < 18446744073709551616 ∧ -9223372036854775808 ≤ m ∧ m ≤ 9223372036854775807 := by
  obtain ⟨cs, rfl, hsz⟩ := okWide_struct Try.underlying25 hv
  have h4 : Try.prog.cellsOf 25 = 6 := by kernel_rfl
  rw [h4] at hsz
  obtain ⟨v0, v1, v2, v3, v4, v5, rfl⟩ := array6 hsz
  obtain ⟨fuel, hf⟩ := h
  obtain ⟨xs, n, _, _, hl0, hlen, hg⟩ := DataW.trod_struct Try.underlying25 hf
  have hlen6 : xs.length = 6 := hlen
  have c0 : Try.prog.cellsOf 22 = 1 := by kernel_rfl
  have c1 : Try.prog.cellsOf 9 = 1 := by kernel_rfl
  have c2 : Try.prog.cellsOf 23 = 1 := by kernel_rfl
  have c3 : Try.prog.cellsOf 3 = 1 := by kernel_rfl
  have g0 := hg 0 _ rfl
  have g1 := hg 1 _ rfl
  have g2 := hg 2 _ rfl
  have g3 := hg 3 _ rfl
  have g4 := hg 4 _ rfl
  have g5 := hg 5 _ rfl
  rw [List.getElem?_eq_getElem (by omega)] at g0 g1 g2 g3 g4 g5
  simp [Value.cells, c0, c1, c2, c3] at g0 g1 g2 g3 g4 g5
  obtain ⟨l, hl, hm⟩ := ents_cell g0
  obtain ⟨s1, e1, -, w1⟩ := DataW.trod_string Try.underlying9 g1
  obtain ⟨s2, e2, -, w2⟩ := DataW.trod_string Try.underlying9 g2
  obtain ⟨s3, e3, -, w3⟩ := DataW.trod_string Try.underlying9 g3
  obtain ⟨s4, e4, -, w4⟩ := DataW.trod_int Try.underlying23 g4
  obtain ⟨s5, e5, -, w5⟩ := DataW.trod_int Try.underlying3 g5
  simp at e1 e2 e3 e4 e5
  subst e1 e2 e3 e4 e5
  obtain ⟨i', rfl, hi'⟩ := wfu64 w4
  exact ⟨v0, l, s1, s2, s3, i', s5, rfl, hl, hm, w1, w2, w3, hi', (wf64 w5).1, (wf64 w5).2⟩
def askV (u : Value) (pp dd key : ByteArray) (id : Nat) (m : Int) : Value := .agg #[u, .string pp, .string dd, .string key, .int .u64 (id : Nat), .int .i64 m]
/-- What lies elsewhere stays where the box of what is asked for is written. -/
theorem Ents.boxed {w w' : World} {B : Nat} {t : TypeId} {v : Value} {l : List Ent} {A : Option Addr} {n c : Nat} {s1 s2 s3 : ByteArray} {k1 k2 : IntKind} {i1 i2 : Int} (h : Ents w w.heap.size v l)
    (hb : Bx w B t #[.slice A n c, .string s1, .string s2, .string s3, .int k1 i1, .int k2 i2]) (hk : ∀ j, j ≠ B → w'.heap[j]? = w.heap[j]?) (hs : w.heap.size ≤ w'.heap.size) : Ents w' w'.heap.size v l := by
  have hx : ∀ o b, w.cell? ⟨B, o + 2, none⟩ = some (.bool b) → False := fun o b e => by
    rw [hb.cell] at e
    match o with
    | 0 => simp at e
    | 1 => simp at e
    | 2 => simp at e
    | 3 => simp at e
    | o + 4 => simp at e
  have hy : ∀ o A2 n2 c2, w.cell? ⟨B, o + 1, none⟩ = some (.slice A2 n2 c2) → False := fun o A2 n2 c2 e => by
    rw [hb.cell] at e
    match o with
    | 0 => simp at e
    | 1 => simp at e
    | 2 => simp at e
    | 3 => simp at e
    | 4 => simp at e
    | o + 5 => simp at e
  have hv : ∀ (u : Value) (L : List Ver), Vers w w.heap.size u L → Vers w' w'.heap.size u L := by
    rintro u L ⟨A', c', e, e0, ez, eo, f⟩
    refine ⟨A', c', e, e0, ez, eo, fun i hi => ?_⟩
    obtain ⟨a, e1, e2, e3⟩ := f i hi
    refine ⟨a, e1, by omega, ?_⟩
    obtain ⟨h0, h1, h2, h3⟩ := e3
    have hne : (a.add (i * 4)).block ≠ B := fun q => by rw [q] at h2; exact hx _ _ h2
    have hh := hk _ hne
    exact ⟨(World.cell?_of_block hh).trans h0, (World.cell?_of_block (a := ⟨(a.add (i * 4)).block, _, none⟩) hh).trans h1, (World.cell?_of_block (a := ⟨(a.add (i * 4)).block, _, none⟩) hh).trans h2, (World.cell?_of_block (a := ⟨(a.add (i * 4)).block, _, none⟩) hh).trans h3⟩
  obtain ⟨A', c', e, e0, ez, eo, f⟩ := h
  refine ⟨A', c', e, e0, ez, eo, fun i hi => ?_⟩
  obtain ⟨a, e1, e2, h1, u, h2, h3⟩ := f i hi
  obtain ⟨A3, c3, hu⟩ := h3.form
  have hne : (a.add (i * 2)).block ≠ B := fun q => by rw [q, hu] at h2; exact hy _ _ _ _ h2
  have hh := hk _ hne
  exact ⟨a, e1, by omega, (World.cell?_of_block hh).trans h1, u, (World.cell?_of_block (a := ⟨(a.add (i * 2)).block, _, none⟩) hh).trans h2, hv u _ h3⟩
end Go.Proofs.Ytipipjpdlblifaa
