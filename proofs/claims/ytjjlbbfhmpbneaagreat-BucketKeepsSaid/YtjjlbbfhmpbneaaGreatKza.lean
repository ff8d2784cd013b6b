/-
  A slice of acts that came in. Plain facts of BucketTurns: puts, deletes and drops at two keys may be turned. Plain facts of what is done to a bucket: it stays one that may be, and numbers rise. Plain facts of a bucket that has been off ever since: each chain has one version, with no number. Acts, and what has been done, in boxes of their own. A map of one's own from numbers to whether they are in it; what lies elsewhere stays while it is written. A map of one's own from texts to texts: what stands at each key of a bucket that has been off ever since. Plain facts of BucketParts: an upload that is begun, laid part by part from the last one on, and made whole. Arguments that are slices of texts, behind the bucket's texts. Plain facts of BucketKeeps: with On each version that was laid is found, whatever is done, but a Drop. A map of versions by their keys and numbers, as the call makes it: what is laid in it, and the range over it.
-/
import Derived.Test.YtjjlbbfhmpbneaaGreatKz
import Derived.Test.YtjjlbbfhmpbneaaGreatKx
import Derived.Test.YtjjlbbfhmpbneaaGreatKq
import Derived.Test.YtjjlbbfhmpbneaaGreatKg
import Derived.Test.YtjjlbbfhmpbneaaGreatKk
import Derived.Maps.Own
import Derived.Maps.OwnOps
import Derived.Maps.OwnSet
import Derived.Maps.Views
import Derived.Maps.StringElems
import Derived.StringKeys
import Derived.OpenShut
import Derived.ShutString
import Derived.ChangeOld
import Derived.SliceStrings
import Derived.Carry
import Derived.SizedLaws
import Derived.Maps.RangeRun
import Derived.DeepKeys4
namespace Go.Proofs.YtjjlbbfhmpbneaaGreat
set_option maxRecDepth 100000
open Go.ChangeShapes Go.WideShapes Go.ChangeAt Go.RowKit
set_option linter.unusedVariables false
set_option linter.unusedSimpArgs false
def AtAct (w : World) (B : Nat) (p : Addr) (a : Actn) : Prop :=
  w.cell? p = some (.int .u8 (a.kind : Nat)) ∧ w.cell? ⟨p.block, p.off + 1, none⟩ = some (.string a.key) ∧ w.cell? ⟨p.block, p.off + 2, none⟩ = some (.string a.data) ∧ w.cell? ⟨p.block, p.off + 3, none⟩ = some (.int .u64 (a.id : Nat)) ∧
  w.cell? ⟨p.block, p.off + 4, none⟩ = some (.int .i64 a.n) ∧ w.cell? ⟨p.block, p.off + 5, none⟩ = some (.int .i64 a.tm) ∧ ∃ u, w.cell? ⟨p.block, p.off + 6, none⟩ = some u ∧ Pces w B u a.P
def Acts (w : World) (B : Nat) (v : Value) (l : List Actn) : Prop :=
  ∃ A c, v = .slice A l.length c ∧ l.length ≤ c ∧ (A = none → c = 0) ∧ (∀ x ∈ l, okA9 x) ∧ ∀ k (h : k < l.length), ∃ a : Addr, A = some a ∧ a.block < B ∧ AtAct w B (a.add (k * 7)) l[k]
theorem AtAct.below {w w' : World} {B : Nat} {p : Addr} {e : Actn} (h : AtAct w B p e) (hp : p.block < B) (k : Below B w w') : AtAct w' B p e := by
  obtain ⟨h0, h1, h2, h3, h4, h5, u, hu, h6⟩ := h
  exact ⟨(k.cell hp).trans h0, (k.cell (p := ⟨p.block, p.off + 1, none⟩) hp).trans h1, (k.cell (p := ⟨p.block, p.off + 2, none⟩) hp).trans h2, (k.cell (p := ⟨p.block, p.off + 3, none⟩) hp).trans h3, (k.cell (p := ⟨p.block, p.off + 4, none⟩) hp).trans h4, (k.cell (p := ⟨p.block, p.off + 5, none⟩) hp).trans h5, u, (k.cell (p := ⟨p.block, p.off + 6, none⟩) hp).trans hu, h6.below k⟩
theorem AtAct.more {w : World} {B B' : Nat} {p : Addr} {e : Actn} (h : AtAct w B p e) (k : B ≤ B') : AtAct w B' p e := by
  obtain ⟨h0, h1, h2, h3, h4, h5, u, hu, h6⟩ := h
  exact ⟨h0, h1, h2, h3, h4, h5, u, hu, h6.more k⟩
theorem Acts.below {w w' : World} {B : Nat} {v : Value} {l : List Actn} (h : Acts w B v l) (k : Below B w w') : Acts w' B v l := by
  obtain ⟨A, c, e, e0, ez, eo, f⟩ := h
  refine ⟨A, c, e, e0, ez, eo, fun i hi => ?_⟩
  obtain ⟨a, e1, e2, e3⟩ := f i hi
  exact ⟨a, e1, e2, e3.below (by rw [add_block]; exact e2) k⟩
theorem Acts.more {w : World} {B B' : Nat} {v : Value} {l : List Actn} (h : Acts w B v l) (k : B ≤ B') : Acts w B' v l := by
  obtain ⟨A, c, e, e0, ez, eo, f⟩ := h
  refine ⟨A, c, e, e0, ez, eo, fun i hi => ?_⟩
  obtain ⟨a, e1, e2, e3⟩ := f i hi
  exact ⟨a, e1, by omega, e3.more k⟩
theorem Acts.on {w w' : World} {v : Value} {l : List Actn} (h : Acts w w.heap.size v l) (k : Q w w') : Acts w' w'.heap.size v l := (h.below k).more k.size
theorem Acts.nil (w : World) (B : Nat) : Acts w B (.slice none 0 0) [] := ⟨none, 0, rfl, Nat.le_refl _, fun _ => rfl, by simp, fun k h => absurd h (by simp)⟩
theorem Acts.okAll {w : World} {B : Nat} {v : Value} {l : List Actn} (h : Acts w B v l) : ∀ x ∈ l, okA9 x := by
  obtain ⟨A, c, e, e0, ez, eo, f⟩ := h; exact eo
theorem Acts.form {w : World} {B : Nat} {v : Value} {l : List Actn} (h : Acts w B v l) : ∃ A c, v = .slice A l.length c := by
  obtain ⟨A, c, e, -⟩ := h; exact ⟨A, c, e⟩
/-- One of a slice, as it lies in every later world. -/
theorem Acts.pick {w : World} {v : Value} {l : List Actn} (h : Acts w w.heap.size v l) (i : Nat) (hi : i < l.length) :
    ∃ (a : Addr) (c : Nat), v = .slice (some a) l.length c ∧ a.block < w.heap.size ∧ okA9 l[i] ∧ ∃ A2 c2, Pces w w.heap.size (.slice A2 l[i].P.length c2) l[i].P ∧
      ∀ d, Q w d → d.cell? (a.add (i * 7)) = some (.int .u8 (l[i].kind : Nat)) ∧ d.cell? ⟨(a.add (i * 7)).block, (a.add (i * 7)).off + 1, none⟩ = some (.string l[i].key) ∧ d.cell? ⟨(a.add (i * 7)).block, (a.add (i * 7)).off + 2, none⟩ = some (.string l[i].data) ∧ d.cell? ⟨(a.add (i * 7)).block, (a.add (i * 7)).off + 3, none⟩ = some (.int .u64 (l[i].id : Nat)) ∧
        d.cell? ⟨(a.add (i * 7)).block, (a.add (i * 7)).off + 4, none⟩ = some (.int .i64 l[i].n) ∧ d.cell? ⟨(a.add (i * 7)).block, (a.add (i * 7)).off + 5, none⟩ = some (.int .i64 l[i].tm) ∧ d.cell? ⟨(a.add (i * 7)).block, (a.add (i * 7)).off + 6, none⟩ = some (.slice A2 l[i].P.length c2) := by
  obtain ⟨A, c, rfl, -, -, eo, f⟩ := h
  obtain ⟨a, rfl, ha, h0, h1, h2, h3, h4, h5, u, h6, hu⟩ := f i hi
  obtain ⟨A2, c2, rfl⟩ := hu.form
  have hb : (a.add (i * 7)).block < w.heap.size := by rw [add_block]; exact ha
  exact ⟨a, c, rfl, ha, eo _ (List.getElem_mem hi), A2, c2, hu, fun d q => ⟨(q.cell hb).trans h0, (q.cell (p := ⟨(a.add (i * 7)).block, (a.add (i * 7)).off + 1, none⟩) hb).trans h1, (q.cell (p := ⟨(a.add (i * 7)).block, (a.add (i * 7)).off + 2, none⟩) hb).trans h2, (q.cell (p := ⟨(a.add (i * 7)).block, (a.add (i * 7)).off + 3, none⟩) hb).trans h3, (q.cell (p := ⟨(a.add (i * 7)).block, (a.add (i * 7)).off + 4, none⟩) hb).trans h4, (q.cell (p := ⟨(a.add (i * 7)).block, (a.add (i * 7)).off + 5, none⟩) hb).trans h5, (q.cell (p := ⟨(a.add (i * 7)).block, (a.add (i * 7)).off + 6, none⟩) hb).trans h6⟩⟩
theorem cells_act : Tryz.prog.cellsOf 29 = 7 := by kernel_rfl
theorem acts_cellE {H : Type} {enc : TypeId × Value → H} {W : World} {n : Nat} {v : Value} {y : DataW H × List MemPlace}
    (hf : DataW.trod enc Tryz.prog W 0 (fun _ => true) true n 41 [v] = some y) : ∃ l : List Actn, Acts W W.heap.size v l ∧ l.length ≤ maxLen := by
  rcases Deep.open_slice Tryz.underlying41 hf with ⟨hcs, hx⟩ | ⟨a, len', cap', m, n, D, Pl, hcs, _, hl, hm, hmm, hx, hel⟩
  · simp at hcs
    subst hcs
    exact ⟨[], Acts.nil _ _, by simp⟩
  · simp at hcs
    subst hcs
    have each : ∀ i, i < len' → ∃ x : Actn, okA9 x ∧ AtAct W W.heap.size (a.add (i * 7)) x := by
      intro i hi
      obtain ⟨cs', h1, h2⟩ := hel i (by rw [hmm]; simp; omega)
      rw [cells_act] at h1
      obtain ⟨-, hlen4, hcell⟩ := World.cells?_some h1
      obtain ⟨xs, n', _, _, hl0, hlen, hg⟩ := DataW.trod_struct Tryz.underlying29 h2
      have hlen7 : xs.length = 7 := hlen
      obtain ⟨v0, v1, v2, v3, v4, v5, v6, rfl⟩ : ∃ a b c d e f g, cs' = [a, b, c, d, e, f, g] := by
        match cs', hlen4 with
        | [a, b, c, d, e, f, g], _ => exact ⟨a, b, c, d, e, f, g, rfl⟩
      have c0 : Tryz.prog.cellsOf 9 = 1 := by kernel_rfl
      have c1 : Tryz.prog.cellsOf 3 = 1 := by kernel_rfl
      have c2 : Tryz.prog.cellsOf 5 = 1 := by kernel_rfl
      have c3 : Tryz.prog.cellsOf 27 = 1 := by kernel_rfl
      have c4 : Tryz.prog.cellsOf 24 = 1 := by kernel_rfl
      have g0 := hg 0 _ rfl
      have g1 := hg 1 _ rfl
      have g2 := hg 2 _ rfl
      have g3 := hg 3 _ rfl
      have g4 := hg 4 _ rfl
      have g5 := hg 5 _ rfl
      have g6 := hg 6 _ rfl
      rw [List.getElem?_eq_getElem (by omega)] at g0 g1 g2 g3 g4 g5 g6
      simp [Value.cells, c0, c1, c2, c3, c4] at g0 g1 g2 g3 g4 g5 g6
      obtain ⟨s0, e0, -, w0⟩ := DataW.trod_int Tryz.underlying5 g0
      obtain ⟨s1, e1, -, w1⟩ := DataW.trod_string Tryz.underlying9 g1
      obtain ⟨s2, e2, -, w2⟩ := DataW.trod_string Tryz.underlying9 g2
      obtain ⟨s3, e3, -, w3⟩ := DataW.trod_int Tryz.underlying24 g3
      obtain ⟨s4, e4, -, w4⟩ := DataW.trod_int Tryz.underlying3 g4
      obtain ⟨s5, e5, -, w5⟩ := DataW.trod_int Tryz.underlying3 g5
      simp at e0 e1 e2 e3 e4 e5
      subst e0 e1 e2 e3 e4 e5
      obtain ⟨i', rfl, hi'⟩ := wfu64 w3
      obtain ⟨k', rfl, hk'⟩ : ∃ n : Nat, s0 = n ∧ n < 256 := by
        have h2 : 0 ≤ s0 ∧ s0 ≤ 255 := by simpa [Lit.wf, IntKind.min, IntKind.max, IntKind.signed, IntKind.bits] using w0
        exact ⟨s0.toNat, by omega, by omega⟩
      obtain ⟨P, hP, mP⟩ := pce_cellE g6
      have at1 : ∀ j (h0 : 0 < j) (h7 : j < 7), W.cell? ⟨(a.add (i * 7)).block, (a.add (i * 7)).off + j, none⟩ = _ := fun j h0 h7 => (congrArg W.cell? (add_pos _ h0).symm).trans (hcell j h7)
      exact ⟨⟨k', s1, s2, i', s4, s5, P⟩, ⟨hk', w1, w2, hi', wf64 w4, wf64 w5, mP⟩, hcell 0 (by omega), at1 1 (by omega) (by omega), at1 2 (by omega) (by omega), at1 3 (by omega) (by omega), at1 4 (by omega) (by omega), at1 5 (by omega) (by omega), v6, at1 6 (by omega) (by omega), hP⟩
    obtain ⟨l, hlen, hp⟩ := list_of len' each
    refine ⟨l, ⟨some a, cap', by rw [hlen], by omega, (by simp), ?_, fun k hk => ⟨a, rfl, ?_, (hp k hk).2⟩⟩, by omega⟩
    · intro x hx
      obtain ⟨k, hk, rfl⟩ := List.getElem_of_mem hx
      exact (hp k hk).1
    · have := World.block_lt_of_cell? W _ (hp k hk).2.1
      rw [add_block] at this; exact this
theorem open_acts {H : Type} {enc : TypeId × Value → H} {W : World} {b : Nat} {v : Value} {d : DataW H} {p : List MemPlace} (hv : Value.okWide Tryz.prog W .any b 41 v)
    (h : DataW.Trod enc Tryz.prog W 0 (fun _ => true) true 41 v d p) : ∃ l : List Actn, Acts W W.heap.size v l ∧ l.length ≤ maxLen := by
  obtain ⟨a0, len, cap, rfl⟩ := okWide_slice Tryz.underlying41 hv
  obtain ⟨fuel, hf⟩ := h
  exact acts_cellE (by simpa [Value.cells] using hf)
end Go.Proofs.YtjjlbbfhmpbneaaGreat

namespace Go.Proofs.YtjjlbbfhmpbneaaGreat
set_option maxRecDepth 100000
open Go.ChangeShapes Go.WideShapes Go.ChangeAt Go.RowKit
set_option linter.unusedVariables false
set_option linter.unusedSimpArgs false
/-- What of a version does not hang on its number. -/
def bare (x : Ver) : ByteArray × Bool × Int := (x.data, x.mark, x.tm)
/-- Chains that differ in nothing but numbers. -/
def simV (l m : List Ver) : Prop := l.map bare = m.map bare
theorem simV.nil {l m : List Ver} (h : simV l m) : l = [] ↔ m = [] := by
  have := congrArg List.length h
  simp only [List.length_map] at this
  rw [← List.length_eq_zero_iff, ← List.length_eq_zero_iff]
  omega
/-- One of puts, deletes and drops at a chain. -/
def StpC (a : Actn) (l : List Ver) (st : Int) (m : Nat) (L : List Ver) : Prop :=
  ((a.kind % 9 = 0 ∨ a.kind % 9 = 1) ∧ PutC l st ⟨m, a.data, false, a.tm⟩ L 0) ∨ (a.kind % 9 = 2 ∧ DelC l st m a.tm L 0) ∨ (a.kind % 9 = 3 ∧ DropC l a.id L 0)
theorem setC_zero {b d : Bkt} {key : ByteArray} {M : List Ver → Nat → Prop} (h : SetC b key M d 0) : ∃ L, M L 0 ∧ okP L ∧ d = { b with L := putE b.L key L } := by
  obtain ⟨l, e, hM, ⟨h0, -, rfl⟩ | ⟨rfl, L, j, hP, rfl, rfl⟩⟩ := h
  · exact absurd rfl h0
  · rcases putI_k hP with ⟨-, -, -, hp, rfl, -⟩ | ⟨h, -⟩
    · exact ⟨l, hM, hp, rfl⟩
    · exact absurd rfl h
theorem givC_zero {b d : Bkt} {n m : Nat} {key : ByteArray} (h : GivC b n key d m 0) : hasO 1 60 ko key = true ∧ d.L = b.L ∧ d.st = b.st ∧ (b.st ≠ 1 → d.last = b.last) := by
  rcases h with ⟨-, -, -, h⟩ | ⟨h, h1, rfl, -, -⟩ | ⟨h, h1, h2⟩
  · omega
  · exact ⟨h, rfl, rfl, fun _ => rfl⟩
  · rcases h2 with ⟨-, -, -, h2⟩ | ⟨-, rfl, -, -⟩
    · omega
    · exact ⟨h, rfl, rfl, fun e => absurd h1 e⟩
theorem do_okB {b d : Bkt} {a : Actn} {n t : Nat} {s : ByteArray} {k : Nat} (hk : a.kind % 9 ≤ 3) (hb : okB b) (h : FinC b (DoR b a) d n t s k) : okB d := by
  have h9 : a.kind % 9 = 0 ∨ a.kind % 9 = 1 ∨ a.kind % 9 = 2 ∨ a.kind % 9 = 3 := by omega
  rcases h9 with h9 | h9 | h9 | h9
  · rw [doR_0 h9] at h; exact fin_ok putR_ok hb h
  · rw [doR_1 h9] at h; exact fin_ok putR_ok hb h
  · rw [doR_2 h9] at h; exact fin_ok delR_ok hb h
  · rw [doR_3 h9] at h; exact fin_ok dropR_ok hb h
theorem do_step {b d : Bkt} {a : Actn} {n t : Nat} {s : ByteArray} (hk : a.kind % 9 ≤ 3) (h : FinC b (DoR b a) d n t s 0) :
    ∃ m L, okB b ∧ okB d ∧ hasO 1 60 ko a.key = true ∧ StpC a (getE b.L a.key) b.st m L ∧ d.L = putE b.L a.key L ∧ d.st = b.st ∧ (b.st ≠ 1 → d.last = b.last) := by
  have hb : okB b := by
    rcases h with ⟨-, -, h⟩ | ⟨h, -⟩
    · omega
    · exact h
  have hd := do_okB hk hb h
  obtain ⟨d1, n1, t1, s1, hr, rfl⟩ : ∃ d1 n1 t1 s1, DoR b a d1 n1 t1 s1 0 ∧ d = d1 := by
    rcases h with ⟨-, -, h⟩ | ⟨-, d1, n1, t1, s1, k1, hr, ⟨h0, -, h⟩ | ⟨-, -, -, h⟩ | ⟨rfl, -, ⟨rfl, -⟩, -⟩⟩
    · omega
    · exact absurd h.symm h0
    · omega
    · exact ⟨_, _, _, _, hr, rfl⟩
  have PUTS : (a.kind % 9 = 0 ∨ a.kind % 9 = 1) → PutR b a.key a.data a.tm d n1 t1 s1 0 → ∃ m L, okB b ∧ okB d ∧ hasO 1 60 ko a.key = true ∧ StpC a (getE b.L a.key) b.st m L ∧ d.L = putE b.L a.key L ∧ d.st = b.st ∧ (b.st ≠ 1 → d.last = b.last) := by
    rintro h9 ⟨⟨b1, m1, k1, hg, ⟨h0, -, -, h⟩ | ⟨rfl, -, hS⟩⟩, -⟩
    · exact absurd h.symm h0
    · obtain ⟨g1, g2, g3, g4⟩ := givC_zero hg
      obtain ⟨L, hM, -, rfl⟩ := setC_zero hS
      rw [g2, g3] at hM
      exact ⟨m1, L, hb, hd, g1, .inl ⟨h9, hM⟩, by rw [← g2], g3, g4⟩
  have h9 : a.kind % 9 = 0 ∨ a.kind % 9 = 1 ∨ a.kind % 9 = 2 ∨ a.kind % 9 = 3 := by omega
  rcases h9 with h9 | h9 | h9 | h9
  · rw [doR_0 h9] at hr; exact PUTS (.inl h9) hr
  · rw [doR_1 h9] at hr; exact PUTS (.inr h9) hr
  · rw [doR_2 h9] at hr
    obtain ⟨⟨b1, m1, k1, hg, ⟨h0, -, -, h⟩ | ⟨rfl, -, hS⟩⟩, -⟩ := hr
    · exact absurd h.symm h0
    · obtain ⟨g1, g2, g3, g4⟩ := givC_zero hg
      obtain ⟨L, hM, -, rfl⟩ := setC_zero hS
      rw [g2, g3] at hM
      exact ⟨m1, L, hb, hd, g1, .inr (.inl ⟨h9, hM⟩), by rw [← g2], g3, g4⟩
  · rw [doR_3 h9] at hr
    obtain ⟨⟨-, -, h⟩ | ⟨g1, hS⟩, -⟩ := hr
    · omega
    · obtain ⟨L, hM, -, rfl⟩ := setC_zero hS
      exact ⟨0, L, hb, hd, g1, .inr (.inr ⟨h9, hM⟩), rfl, rfl, fun _ => rfl⟩
end Go.Proofs.YtjjlbbfhmpbneaaGreat

namespace Go.Proofs.YtjjlbbfhmpbneaaGreat
set_option maxRecDepth 100000
open Go.ChangeShapes Go.WideShapes Go.ChangeAt Go.RowKit
set_option linter.unusedVariables false
set_option linter.unusedSimpArgs false
theorem kind9 (n : Nat) : n % 9 = 0 ∨ n % 9 = 1 ∨ n % 9 = 2 ∨ n % 9 = 3 ∨ n % 9 = 4 ∨ n % 9 = 5 ∨ n % 9 = 6 ∨ n % 9 = 7 ∨ n % 9 = 8 := by omega
theorem do_ex9 (b : Bkt) (a : Actn) : ∃ d n t s k, FinC b (DoR b a) d n t s k := by
  refine finC_ex b ?_
  rcases kind9 a.kind with h9 | h9 | h9 | h9 | h9 | h9 | h9 | h9 | h9
  · rw [doR_0 h9]; obtain ⟨d, m, k, h⟩ := wput_ex b 0 a.key a.data a.tm; exact ⟨d, m, 0, noS, k, h, rfl, rfl⟩
  · rw [doR_1 h9]; obtain ⟨d, m, k, h⟩ := wput_ex b 0 a.key a.data a.tm; exact ⟨d, m, 0, noS, k, h, rfl, rfl⟩
  · rw [doR_2 h9]; obtain ⟨d, m, k, h⟩ := wdel_ex b 0 a.key a.tm; exact ⟨d, m, 0, noS, k, h, rfl, rfl⟩
  · rw [doR_3 h9]; obtain ⟨d, k, h⟩ := wdrop_ex b a.key a.id; exact ⟨d, 0, 0, noS, k, h, rfl, rfl, rfl⟩
  · rw [doR_4 h9]; obtain ⟨d, k, h⟩ := wturn_ex b a.n; exact ⟨d, 0, 0, noS, k, h, rfl, rfl, rfl⟩
  · rw [doR_5 h9]; obtain ⟨d, m, k, h⟩ := wbeg_ex b 0 a.key; exact ⟨d, m, 0, noS, k, h, rfl, rfl⟩
  · rw [doR_6 h9]; obtain ⟨d, t, k, h⟩ := wlay_ex b a.id ⟨a.n, a.data⟩; exact ⟨d, 0, t, noS, k, h, rfl, rfl⟩
  · rw [doR_7 h9]; obtain ⟨d, k, h⟩ := wabo_ex b a.id; exact ⟨d, 0, 0, noS, k, h, rfl, rfl, rfl⟩
  · rw [doR_8 h9]; obtain ⟨d, m, s, k, h⟩ := wwho_ex b 0 a.id a.P a.tm; exact ⟨d, m, 0, s, k, h, rfl⟩
theorem do_ok9 {b d : Bkt} {a : Actn} {n t : Nat} {s : ByteArray} {k : Nat} (hb : okB b) (h : FinC b (DoR b a) d n t s k) : okB d := by
  rcases kind9 a.kind with h9 | h9 | h9 | h9 | h9 | h9 | h9 | h9 | h9
  · rw [doR_0 h9] at h; exact fin_ok putR_ok hb h
  · rw [doR_1 h9] at h; exact fin_ok putR_ok hb h
  · rw [doR_2 h9] at h; exact fin_ok delR_ok hb h
  · rw [doR_3 h9] at h; exact fin_ok dropR_ok hb h
  · rw [doR_4 h9] at h; exact fin_ok turnR_ok hb h
  · rw [doR_5 h9] at h; exact fin_ok begR_ok hb h
  · rw [doR_6 h9] at h; exact fin_ok layR_ok hb h
  · rw [doR_7 h9] at h; exact fin_ok aboR_ok hb h
  · rw [doR_8 h9] at h; exact fin_ok whoR_ok hb h
/-- What is refused leaves the bucket, and gives nothing. -/
theorem fin_err {b d : Bkt} {R : Bkt → Nat → Nat → ByteArray → Nat → Prop} {n t : Nat} {s : ByteArray} {k : Nat} (h : FinC b R d n t s k) (hk : k ≠ 0) : d = b ∧ n = 0 ∧ t = 0 ∧ s = noS := by
  rcases h with ⟨-, h, -⟩ | ⟨-, d1, n1, t1, s1, k1, hr, ⟨-, h, -⟩ | ⟨-, -, h, -⟩ | ⟨-, -, -, h⟩⟩
  · exact h
  · exact h
  · exact h
  · exact absurd h hk
theorem fin_done {b d : Bkt} {R : Bkt → Nat → Nat → ByteArray → Nat → Prop} {n t : Nat} {s : ByteArray} (h : FinC b R d n t s 0) : okB b ∧ R d n t s 0 ∧ octB d ≤ 20000 := by
  rcases h with ⟨-, -, h⟩ | ⟨hb, d1, n1, t1, s1, k1, hr, ⟨h0, -, h⟩ | ⟨-, -, -, h⟩ | ⟨rfl, ho, ⟨rfl, rfl, rfl, rfl⟩, -⟩⟩
  · omega
  · exact absurd h.symm h0
  · omega
  · exact ⟨hb, hr, ho⟩
theorem givC_num {b d : Bkt} {n m : Nat} {key : ByteArray} (h : GivC b n key d m 0) : d.st = b.st ∧ ((b.st ≠ 1 ∧ d.last = b.last ∧ m = n) ∨ (b.st = 1 ∧ d.last = b.last + 1 ∧ m = b.last + 1)) := by
  rcases h with ⟨-, -, -, h⟩ | ⟨h, h1, rfl, rfl, -⟩ | ⟨h, h1, h2⟩
  · omega
  · exact ⟨rfl, .inl ⟨h1, rfl, rfl⟩⟩
  · rcases h2 with ⟨-, -, -, h2⟩ | ⟨-, rfl, rfl, -⟩
    · omega
    · exact ⟨rfl, .inr ⟨h1, rfl, rfl⟩⟩
theorem wput_num {b d : Bkt} {key data : ByteArray} {tm : Int} {n : Nat} (h : WPut b 0 key data tm d n 0) : d.st = b.st ∧ ((b.st ≠ 1 ∧ d.last = b.last ∧ n = 0) ∨ (b.st = 1 ∧ d.last = b.last + 1 ∧ n = d.last)) := by
  obtain ⟨b1, m1, k1, hg, ⟨h0, -, -, h⟩ | ⟨rfl, rfl, hS⟩⟩ := h
  · exact absurd h.symm h0
  · obtain ⟨L, -, -, rfl⟩ := setC_zero hS
    obtain ⟨h1, ⟨h2, h3, h4⟩ | ⟨h2, h3, h4⟩⟩ := givC_num hg
    · exact ⟨h1, .inl ⟨h2, h3, h4⟩⟩
    · exact ⟨h1, .inr ⟨h2, h3, h4.trans h3.symm⟩⟩
theorem wdel_num {b d : Bkt} {key : ByteArray} {tm : Int} {n : Nat} (h : WDel b 0 key tm d n 0) : d.st = b.st ∧ ((b.st ≠ 1 ∧ d.last = b.last ∧ n = 0) ∨ (b.st = 1 ∧ d.last = b.last + 1 ∧ n = d.last)) := by
  obtain ⟨b1, m1, k1, hg, ⟨h0, -, -, h⟩ | ⟨rfl, rfl, hS⟩⟩ := h
  · exact absurd h.symm h0
  · obtain ⟨L, -, -, rfl⟩ := setC_zero hS
    obtain ⟨h1, ⟨h2, h3, h4⟩ | ⟨h2, h3, h4⟩⟩ := givC_num hg
    · exact ⟨h1, .inl ⟨h2, h3, h4⟩⟩
    · exact ⟨h1, .inr ⟨h2, h3, h4.trans h3.symm⟩⟩
/-- What is given is the last number, and greater than what was the last. -/
theorem do_num {b d : Bkt} {a : Actn} {n t : Nat} {s : ByteArray} (h : FinC b (DoR b a) d n t s 0) : b.last ≤ d.last ∧ (a.kind % 9 ≠ 6 → t = 0 ∧ (n = 0 ∨ (n = d.last ∧ b.last < d.last))) := by
  obtain ⟨hb, hr, -⟩ := fin_done h
  have PUT : WPut b 0 a.key a.data a.tm d n 0 ∧ t = 0 → b.last ≤ d.last ∧ (a.kind % 9 ≠ 6 → t = 0 ∧ (n = 0 ∨ (n = d.last ∧ b.last < d.last))) := fun ⟨h, ht⟩ => by
    obtain ⟨-, ⟨-, h2, h3⟩ | ⟨-, h2, h3⟩⟩ := wput_num h
    · exact ⟨by omega, fun _ => ⟨ht, .inl h3⟩⟩
    · exact ⟨by omega, fun _ => ⟨ht, .inr ⟨h3, by omega⟩⟩⟩
  rcases kind9 a.kind with h9 | h9 | h9 | h9 | h9 | h9 | h9 | h9 | h9
  · rw [doR_0 h9] at hr; exact PUT ⟨hr.1, hr.2.1⟩
  · rw [doR_1 h9] at hr; exact PUT ⟨hr.1, hr.2.1⟩
  · rw [doR_2 h9] at hr
    obtain ⟨-, ⟨-, h2, h3⟩ | ⟨-, h2, h3⟩⟩ := wdel_num hr.1
    · exact ⟨by omega, fun _ => ⟨hr.2.1, .inl h3⟩⟩
    · exact ⟨by omega, fun _ => ⟨hr.2.1, .inr ⟨h3, by omega⟩⟩⟩
  · rw [doR_3 h9] at hr
    obtain ⟨⟨-, -, h⟩ | ⟨-, hS⟩, hn, ht, -⟩ := hr
    · omega
    · obtain ⟨L, -, -, rfl⟩ := setC_zero hS
      exact ⟨Nat.le_refl _, fun _ => ⟨ht, .inl hn⟩⟩
  · rw [doR_4 h9] at hr
    obtain ⟨⟨-, -, h⟩ | ⟨-, -, -, -, h⟩ | ⟨-, -, rfl, -⟩, hn, ht, -⟩ := hr
    · omega
    · omega
    · exact ⟨Nat.le_refl _, fun _ => ⟨ht, .inl hn⟩⟩
  · rw [doR_5 h9] at hr
    obtain ⟨⟨-, -, -, h⟩ | ⟨-, b1, m1, k1, hg, ⟨h0, -, -, h⟩ | ⟨rfl, rfl, U, -, rfl⟩⟩, ht, -⟩ := hr
    · omega
    · exact absurd h.symm h0
    · rcases hg with ⟨-, -, -, h⟩ | ⟨-, rfl, rfl, -⟩
      · omega
      · exact ⟨Nat.le_succ _, fun _ => ⟨ht, .inr ⟨rfl, Nat.lt_succ_self _⟩⟩⟩
  · rw [doR_6 h9] at hr
    obtain ⟨⟨U, -, rfl⟩, -, -⟩ := hr
    exact ⟨Nat.le_refl _, fun h => absurd h9 h⟩
  · rw [doR_7 h9] at hr
    obtain ⟨⟨U, -, rfl⟩, hn, ht, -⟩ := hr
    exact ⟨Nat.le_refl _, fun _ => ⟨ht, .inl hn⟩⟩
  · rw [doR_8 h9] at hr
    obtain ⟨⟨u, e, -, ⟨h0, -, -, -, h⟩ | ⟨rfl, S, T, f, -, ⟨h0, -, -, -, h⟩ | ⟨rfl, -, U, g, -, hP⟩⟩⟩, ht⟩ := hr
    · exact absurd h.symm h0
    · exact absurd h.symm h0
    · obtain ⟨-, ⟨-, h2, h3⟩ | ⟨-, h2, h3⟩⟩ := wput_num hP
      · have h2' : d.last = b.last := h2
        exact ⟨by omega, fun _ => ⟨ht, .inl h3⟩⟩
      · have h2' : d.last = b.last + 1 := h2
        exact ⟨by omega, fun _ => ⟨ht, .inr ⟨h3, by omega⟩⟩⟩
theorem do_last {b d : Bkt} {a : Actn} {n t : Nat} {s : ByteArray} {k : Nat} (h : FinC b (DoR b a) d n t s k) : b.last ≤ d.last := by
  by_cases hk : k = 0
  · subst hk; exact (do_num h).1
  · rw [(fin_err h hk).1]; exact Nat.le_refl _
end Go.Proofs.YtjjlbbfhmpbneaaGreat

namespace Go.Proofs.YtjjlbbfhmpbneaaGreat
set_option maxRecDepth 100000
open Go.ChangeShapes Go.WideShapes Go.ChangeAt Go.RowKit
set_option linter.unusedVariables false
set_option linter.unusedSimpArgs false
def oneIf (c : List Ver) : Nat := if c = [] then 0 else 1
theorem sum_len : ∀ {l : List Ent}, (∀ e ∈ l, e.L ≠ []) → (l.map (fun e => oneIf e.L)).sum = l.length
  | [], _ => rfl
  | e :: r, h => by
    rw [List.map_cons, List.sum_cons, sum_len (l := r) (fun x hx => h x (List.mem_cons_of_mem _ hx)), List.length_cons]
    have : oneIf e.L = 1 := by rw [oneIf, if_neg (h e List.mem_cons_self)]
    omega
theorem len_put {l : List Ent} (h : okI l) (key : ByteArray) (m : List Ver) : (putE l key m).length + oneIf (getE l key) = l.length + oneIf m := by
  have hl : ∀ e ∈ l, e.L ≠ [] := fun e he hn => by
    have := ((okI_iff.1 h).2.2 e he).2.1
    rw [hn] at this
    simp at this
  have hp : ∀ e ∈ putE l key m, e.L ≠ [] := fun e he => by
    rcases putE_iff.1 he with ⟨he, -⟩ | ⟨rfl, hm⟩
    · exact hl e he
    · exact hm
  have h1 := sum_put l key m oneIf rfl
  have h2 := sum_put l key (getE l key) oneIf rfl
  rw [put_own h key, sum_len hl] at h2
  rw [sum_len hp] at h1
  omega
def offV (data : ByteArray) (tm : Int) : Ver := ⟨0, data, false, tm⟩
def OffB (b : Bkt) : Prop := okB b ∧ b.st = 0 ∧ b.last = 0 ∧ ∀ e ∈ b.L, ∃ data tm, e.L = [offV data tm]
theorem off_get {b : Bkt} (h : OffB b) (key : ByteArray) : getE b.L key = [] ∨ ∃ data tm, getE b.L key = [offV data tm] := by
  rcases getE_what b.L key with h1 | ⟨e, he, h1⟩
  · exact .inl h1
  · obtain ⟨data, tm, h2⟩ := h.2.2.2 e he
    exact .inr ⟨data, tm, h1.trans h2⟩
theorem off_wo {l : List Ver} (h : l = [] ∨ ∃ data tm, l = [offV data tm]) : woV l 0 = [] := by
  rcases h with rfl | ⟨data, tm, rfl⟩
  · rfl
  · simp [woV, offV]
theorem off_new : OffB awk9.b0 := ⟨awk9.ok_0, rfl, rfl, fun e he => by cases he⟩
/-- What is done to a bucket that is off. -/
theorem off_step {b d : Bkt} {a : Actn} {n t : Nat} {s : ByteArray} (hb : OffB b) (hk : a.kind % 9 ≤ 2) (h : FinC b (DoR b a) d n t s 0) :
    n + t = 0 ∧ OffB d ∧ hasO 1 60 ko a.key = true ∧ (∀ other, other ≠ a.key → getE d.L other = getE b.L other) ∧
    ((a.kind % 9 ≤ 1 ∧ getE d.L a.key = [offV a.data a.tm] ∧ d.L.length + oneIf (getE b.L a.key) = b.L.length + 1) ∨ (a.kind % 9 = 2 ∧ getE b.L a.key ≠ [] ∧ getE d.L a.key = [] ∧ d.L.length + 1 = b.L.length)) := by
  obtain ⟨ob, hst, hl, hall⟩ := hb
  obtain ⟨m, L, -, od, hky, hstp, hL, hds, hdl⟩ := do_step (by omega) h
  have hlast : d.last = 0 := (hdl (by omega)).trans hl
  obtain ⟨hle, hnum⟩ := do_num h
  obtain ⟨ht, hn⟩ := hnum (by omega)
  have rb := okI_rise ob.2.2.2.1
  have hw := off_wo (off_get (⟨ob, hst, hl, hall⟩ : OffB b) a.key)
  have hlen := len_put ob.2.2.2.1 a.key L
  rw [← hL] at hlen
  have hother : ∀ other, other ≠ a.key → getE d.L other = getE b.L other := fun other ho => by rw [hL]; exact getE_other rb _ ho
  have hown : getE d.L a.key = L := by rw [hL]; exact getE_put rb _ _
  have hall' : (L = [] ∨ ∃ data tm, L = [offV data tm]) → ∀ e ∈ d.L, ∃ data tm, e.L = [offV data tm] := fun hx e he => by
    rw [hL] at he
    rcases putE_iff.1 he with ⟨he, -⟩ | ⟨rfl, hm⟩
    · exact hall e he
    · rcases hx with hx | hx
      · exact absurd hx hm
      · exact hx
  have off : (L = [] ∨ ∃ data tm, L = [offV data tm]) → OffB d := fun hx => ⟨od, hds.trans hst, hlast, hall' hx⟩
  rw [hst] at hstp
  rcases hstp with ⟨h9, hp⟩ | ⟨h9, hp⟩ | ⟨h9, -⟩
  · have e1 : L = [offV a.data a.tm] := by
      cases hp with
      | on _ hh => omega
      | over => rw [hw]; rfl
    refine ⟨by omega, off (.inr ⟨_, _, e1⟩), hky, hother, .inl ⟨by omega, hown.trans e1, ?_⟩⟩
    have : oneIf L = 1 := by rw [e1]; rfl
    omega
  · rcases hp with ⟨-, hp⟩ | ⟨h0, -⟩
    · have hne : getE b.L a.key ≠ [] := by
        cases hp with
        | yes _ hh =>
          obtain ⟨i, hi, -⟩ := hh
          intro e
          rw [e] at hi
          simp at hi
      have e1 : L = [] := by cases hp; exact hw
      refine ⟨by omega, off (.inl e1), hky, hother, .inr ⟨h9, hne, hown.trans e1, ?_⟩⟩
      have e2 : oneIf L = 0 := by rw [e1]; rfl
      have e3 : oneIf (getE b.L a.key) = 1 := by rw [oneIf, if_neg hne]
      omega
    · exact absurd rfl h0
  · omega
end Go.Proofs.YtjjlbbfhmpbneaaGreat

namespace Go.Proofs.YtjjlbbfhmpbneaaGreat
set_option maxRecDepth 100000
open Go.ChangeShapes Go.WideShapes Go.ChangeAt Go.RowKit Go.Shelf
set_option linter.unusedVariables false
set_option linter.unusedSimpArgs false
/-- An act lies in a box. -/
def BoxA (w : World) (P : Nat) (a : Actn) : Prop := ∃ A c, Bx w P 29 (acl a (.slice A a.P.length c)) ∧ Pces w w.heap.size (.slice A a.P.length c) a.P
theorem BoxA.on {w w' : World} {P : Nat} {a : Actn} (h : BoxA w P a) (q : Q w w') : BoxA w' P a := by
  obtain ⟨A, c, h, k⟩ := h
  exact ⟨A, c, h.on q, k.on q⟩
theorem BoxA.lt {w : World} {P : Nat} {a : Actn} (h : BoxA w P a) : P < w.heap.size := by
  obtain ⟨A, c, h, k⟩ := h
  exact h.lt
theorem BoxA.calm {w : World} {P : Nat} {a : Actn} (h : BoxA w P a) : Calm w P := by
  obtain ⟨A, c, h, k⟩ := h
  exact calm_act h
theorem BoxA.kp {w w' : World} {P p : Nat} {a : Actn} (h : BoxA w P a) (c : Calm w p) (g : Kp p w w') (hn : P ≠ p) : BoxA w' P a := by
  obtain ⟨A, c1, h, k⟩ := h
  exact ⟨A, c1, g.bx h hn, k.kp c g⟩
theorem BoxA.store {w : World} {P : Nat} {a d : Actn} {A : Option Addr} {c : Nat} (h : BoxA w P a) (k : Pces w w.heap.size (.slice A d.P.length c) d.P) :
    BoxA (((((((w.setCell ⟨P, 0, none⟩ (.int .u8 (d.kind : Nat))).setCell ⟨P, 1, none⟩ (.string d.key)).setCell ⟨P, 2, none⟩ (.string d.data)).setCell ⟨P, 3, none⟩ (.int .u64 (d.id : Nat))).setCell ⟨P, 4, none⟩ (.int .i64 d.n)).setCell ⟨P, 5, none⟩ (.int .i64 d.tm)).setCell ⟨P, 6, none⟩ (.slice A d.P.length c)) P d ∧
    Kp P w (((((((w.setCell ⟨P, 0, none⟩ (.int .u8 (d.kind : Nat))).setCell ⟨P, 1, none⟩ (.string d.key)).setCell ⟨P, 2, none⟩ (.string d.data)).setCell ⟨P, 3, none⟩ (.int .u64 (d.id : Nat))).setCell ⟨P, 4, none⟩ (.int .i64 d.n)).setCell ⟨P, 5, none⟩ (.int .i64 d.tm)).setCell ⟨P, 6, none⟩ (.slice A d.P.length c)) := by
  have cm := h.calm
  obtain ⟨A0, c0, h, -⟩ := h
  obtain ⟨h1, g⟩ := act_all (y0 := .int .u8 (d.kind : Nat)) (y1 := .string d.key) (y2 := .string d.data) (y3 := .int .u64 (d.id : Nat)) (y4 := .int .i64 d.n) (y5 := .int .i64 d.tm) (y6 := .slice A d.P.length c) h
  exact ⟨⟨A, c, h1, k.kp cm g⟩, g⟩
theorem BoxA.new {w : World} {d : Actn} {A : Option Addr} {c : Nat} (k : Pces w w.heap.size (.slice A d.P.length c) d.P) :
    BoxA (w.alloc (.cells (acl d (.slice A d.P.length c)) 29)) w.heap.size d :=
  ⟨A, c, Bx.new _ _ _, k.on ((Q.refl w).alloc _)⟩
/-- What has been done lies in a box. -/
def BoxD (w : World) (P : Nat) (d : Bkt) (i : Nat) (s : ByteArray) (k : Nat) : Prop := ∃ A c A' c', Bx w P 34 (didC d (.slice A d.L.length c) (.slice A' d.U.length c') i s k) ∧ BktV w d (.slice A d.L.length c) (.slice A' d.U.length c')
theorem BoxD.on {w w' : World} {P : Nat} {d : Bkt} {i : Nat} {s : ByteArray} {k : Nat} (h : BoxD w P d i s k) (q : Q w w') : BoxD w' P d i s k := by
  obtain ⟨A, c, A', c', h, k⟩ := h
  exact ⟨A, c, A', c', h.on q, k.on q⟩
theorem BoxD.lt {w : World} {P : Nat} {d : Bkt} {i : Nat} {s : ByteArray} {k : Nat} (h : BoxD w P d i s k) : P < w.heap.size := by
  obtain ⟨A, c, A', c', h, k⟩ := h
  exact h.lt
theorem BoxD.kp {w w' : World} {P p : Nat} {d : Bkt} {i : Nat} {s : ByteArray} {k : Nat} (h : BoxD w P d i s k) (c : Calm w p) (g : Kp p w w') (hn : P ≠ p) : BoxD w' P d i s k := by
  obtain ⟨A, c1, A', c', h, k⟩ := h
  exact ⟨A, c1, A', c', g.bx h hn, k.kp c g⟩
def zDid : Array Value := #[.string ⟨#[]⟩, .int .i64 0, .slice none 0 0, .slice none 0 0, .int .u64 0, .int .u64 0, .string ⟨#[]⟩, .int .i64 0]
/-- A box that is to hold what has been done, and lies above the given ones. -/
def NewD (w0 w : World) (p : Nat) : Prop := Bx w p 34 zDid ∧ w0.heap.size + 2 < p
theorem NewD.on {w0 w w' : World} {p : Nat} (h : NewD w0 w p) (q : Q w w') : NewD w0 w' p := ⟨h.1.on q, h.2⟩
theorem NewD.calm {w0 w : World} {p : Nat} (h : NewD w0 w p) : Calm w p := ⟨_, _, h.1, rfl⟩
theorem NewD.kp {w0 w w' : World} {p r : Nat} (h : NewD w0 w p) (g : Kp r w w') (hn : p ≠ r) : NewD w0 w' p := ⟨g.bx h.1 hn, h.2⟩
theorem NewD.store {w0 w : World} {P : Nat} {d : Bkt} {A A' : Option Addr} {c c' i k : Nat} {s : ByteArray} (h : NewD w0 w P) (v : BktV w d (.slice A d.L.length c) (.slice A' d.U.length c')) :
    BoxD ((((((((w.setCell ⟨P, 0, none⟩ (.string d.name)).setCell ⟨P, 1, none⟩ (.int .i64 d.st)).setCell ⟨P, 2, none⟩ (.slice A d.L.length c)).setCell ⟨P, 3, none⟩ (.slice A' d.U.length c')).setCell ⟨P, 4, none⟩ (.int .u64 (d.last : Nat))).setCell ⟨P, 5, none⟩ (.int .u64 (i : Nat))).setCell ⟨P, 6, none⟩ (.string s)).setCell ⟨P, 7, none⟩ (.int .i64 (k : Nat))) P d i s k ∧
    Kp P w ((((((((w.setCell ⟨P, 0, none⟩ (.string d.name)).setCell ⟨P, 1, none⟩ (.int .i64 d.st)).setCell ⟨P, 2, none⟩ (.slice A d.L.length c)).setCell ⟨P, 3, none⟩ (.slice A' d.U.length c')).setCell ⟨P, 4, none⟩ (.int .u64 (d.last : Nat))).setCell ⟨P, 5, none⟩ (.int .u64 (i : Nat))).setCell ⟨P, 6, none⟩ (.string s)).setCell ⟨P, 7, none⟩ (.int .i64 (k : Nat))) := by
  obtain ⟨h1, g⟩ := did_all (y0 := .string d.name) (y1 := .int .i64 d.st) (y2 := .slice A d.L.length c) (y3 := .slice A' d.U.length c') (y4 := .int .u64 (d.last : Nat)) (y5 := .int .u64 (i : Nat)) (y6 := .string s) (y7 := .int .i64 (k : Nat)) h.1
  exact ⟨⟨A, c, A', c', h1, v.kp h.calm g⟩, g⟩
/-- A bucket and two acts in the first boxes of a call. -/
def In3 (w0 w : World) (b : Bkt) (x y : Actn) : Prop := BoxB w w0.heap.size b ∧ BoxA w (w0.heap.size + 1) x ∧ BoxA w (w0.heap.size + 2) y ∧ Q w0 w
theorem In3.on {w0 w w' : World} {b : Bkt} {x y : Actn} (h : In3 w0 w b x y) (q : Q w w') : In3 w0 w' b x y := ⟨h.1.on q, h.2.1.on q, h.2.2.1.on q, h.2.2.2.trans q⟩
theorem In3.kp {w0 w w' : World} {b : Bkt} {x y : Actn} {p : Nat} (h : In3 w0 w b x y) (c : Calm w p) (g : Kp p w w') (hp : w0.heap.size + 2 < p) : In3 w0 w' b x y :=
  ⟨h.1.kp c g (by omega), h.2.1.kp c g (by omega), h.2.2.1.kp c g (by omega), g.q h.2.2.2 (by omega)⟩
/-- And two boxes of what has been done. -/
def In5 (w0 w : World) (b : Bkt) (x y : Actn) (p : Nat) (d : Bkt) (i : Nat) (s : ByteArray) (k : Nat) (p' : Nat) (d' : Bkt) (i' : Nat) (s' : ByteArray) (k' : Nat) : Prop :=
  In3 w0 w b x y ∧ BoxD w p d i s k ∧ BoxD w p' d' i' s' k'
theorem In5.on {w0 w w' : World} {b : Bkt} {x y : Actn} {p : Nat} {d : Bkt} {i : Nat} {s : ByteArray} {k : Nat} {p' : Nat} {d' : Bkt} {i' : Nat} {s' : ByteArray} {k' : Nat} (h : In5 w0 w b x y p d i s k p' d' i' s' k') (q : Q w w') : In5 w0 w' b x y p d i s k p' d' i' s' k' :=
  ⟨h.1.on q, h.2.1.on q, h.2.2.on q⟩
theorem In5.kp {w0 w w' : World} {b : Bkt} {x y : Actn} {p : Nat} {d : Bkt} {i : Nat} {s : ByteArray} {k : Nat} {p' : Nat} {d' : Bkt} {i' : Nat} {s' : ByteArray} {k' : Nat} {r : Nat} (h : In5 w0 w b x y p d i s k p' d' i' s' k') (c : Calm w r) (g : Kp r w w') (hr : w0.heap.size + 2 < r) (h1 : p ≠ r) (h2 : p' ≠ r) : In5 w0 w' b x y p d i s k p' d' i' s' k' :=
  ⟨h.1.kp c g hr, h.2.1.kp c g h1, h.2.2.kp c g h2⟩
/-- The boxes of a bucket and two acts, with what stands in them. -/
def S3 (w0 w : World) (b : Bkt) (x y : Actn) (lv uv px py : Value) : Prop :=
  Bx w w0.heap.size 26 (bcl b lv uv) ∧ Bx w (w0.heap.size + 1) 29 (acl x px) ∧ Bx w (w0.heap.size + 2) 29 (acl y py) ∧ Q w0 w
def C3 (w : World) (b : Bkt) (x y : Actn) (lv uv px py : Value) : Prop := BktV w b lv uv ∧ Pces w w.heap.size px x.P ∧ Pces w w.heap.size py y.P
section
variable {w0 w w' : World} {b d d' : Bkt} {x y : Actn} {lv uv px py lv1 uv1 lv2 uv2 : Value} {p r p' i i' k k' : Nat} {s s' : ByteArray}
theorem S3.on (h : S3 w0 w b x y lv uv px py) (q : Q w w') : S3 w0 w' b x y lv uv px py := ⟨h.1.on q, h.2.1.on q, h.2.2.1.on q, h.2.2.2.trans q⟩
theorem S3.kp (h : S3 w0 w b x y lv uv px py) (g : Kp r w w') (hp : w0.heap.size + 2 < r) : S3 w0 w' b x y lv uv px py :=
  ⟨g.bx h.1 (by omega), g.bx h.2.1 (by omega), g.bx h.2.2.1 (by omega), g.q h.2.2.2 (by omega)⟩
theorem C3.on (h : C3 w b x y lv uv px py) (q : Q w w') : C3 w' b x y lv uv px py := ⟨h.1.on q, h.2.1.on q, h.2.2.on q⟩
theorem C3.kp (h : C3 w b x y lv uv px py) (c : Calm w r) (g : Kp r w w') : C3 w' b x y lv uv px py := ⟨h.1.kp c g, h.2.1.kp c g, h.2.2.kp c g⟩
theorem In3.of {A A' Ax Ay : Option Addr} {c c' cx cy : Nat} (h : S3 w0 w b x y (.slice A b.L.length c) (.slice A' b.U.length c') (.slice Ax x.P.length cx) (.slice Ay y.P.length cy)) (k : C3 w b x y (.slice A b.L.length c) (.slice A' b.U.length c') (.slice Ax x.P.length cx) (.slice Ay y.P.length cy)) : In3 w0 w b x y :=
  ⟨⟨_, _, _, _, h.1, k.1⟩, ⟨_, _, h.2.1, k.2.1⟩, ⟨_, _, h.2.2.1, k.2.2⟩, h.2.2.2⟩
def S5 (w0 w : World) (b : Bkt) (x y : Actn) (lv uv px py : Value) (p : Nat) (d : Bkt) (lv1 uv1 : Value) (i : Nat) (s : ByteArray) (k : Nat) (p' : Nat) (d' : Bkt) (lv2 uv2 : Value) (i' : Nat) (s' : ByteArray) (k' : Nat) : Prop :=
  S3 w0 w b x y lv uv px py ∧ Bx w p 34 (didC d lv1 uv1 i s k) ∧ Bx w p' 34 (didC d' lv2 uv2 i' s' k')
def C5 (w : World) (b : Bkt) (x y : Actn) (lv uv px py : Value) (d : Bkt) (lv1 uv1 : Value) (d' : Bkt) (lv2 uv2 : Value) : Prop := C3 w b x y lv uv px py ∧ BktV w d lv1 uv1 ∧ BktV w d' lv2 uv2
theorem S5.on (h : S5 w0 w b x y lv uv px py p d lv1 uv1 i s k p' d' lv2 uv2 i' s' k') (q : Q w w') : S5 w0 w' b x y lv uv px py p d lv1 uv1 i s k p' d' lv2 uv2 i' s' k' := ⟨h.1.on q, h.2.1.on q, h.2.2.on q⟩
theorem S5.kp (h : S5 w0 w b x y lv uv px py p d lv1 uv1 i s k p' d' lv2 uv2 i' s' k') (g : Kp r w w') (hp : w0.heap.size + 2 < r) (h1 : p ≠ r) (h2 : p' ≠ r) : S5 w0 w' b x y lv uv px py p d lv1 uv1 i s k p' d' lv2 uv2 i' s' k' :=
  ⟨h.1.kp g hp, g.bx h.2.1 h1, g.bx h.2.2 h2⟩
theorem C5.on (h : C5 w b x y lv uv px py d lv1 uv1 d' lv2 uv2) (q : Q w w') : C5 w' b x y lv uv px py d lv1 uv1 d' lv2 uv2 := ⟨h.1.on q, h.2.1.on q, h.2.2.on q⟩
theorem C5.kp (h : C5 w b x y lv uv px py d lv1 uv1 d' lv2 uv2) (c : Calm w r) (g : Kp r w w') : C5 w' b x y lv uv px py d lv1 uv1 d' lv2 uv2 := ⟨h.1.kp c g, h.2.1.kp c g, h.2.2.kp c g⟩
theorem In5.of {A A' Ax Ay B1 B2 B3 B4 : Option Addr} {c c' cx cy e1 e2 e3 e4 : Nat} (h : S5 w0 w b x y (.slice A b.L.length c) (.slice A' b.U.length c') (.slice Ax x.P.length cx) (.slice Ay y.P.length cy) p d (.slice B1 d.L.length e1) (.slice B2 d.U.length e2) i s k p' d' (.slice B3 d'.L.length e3) (.slice B4 d'.U.length e4) i' s' k')
    (g : C5 w b x y (.slice A b.L.length c) (.slice A' b.U.length c') (.slice Ax x.P.length cx) (.slice Ay y.P.length cy) d (.slice B1 d.L.length e1) (.slice B2 d.U.length e2) d' (.slice B3 d'.L.length e3) (.slice B4 d'.U.length e4)) : In5 w0 w b x y p d i s k p' d' i' s' k' :=
  ⟨In3.of h.1 g.1, ⟨_, _, _, _, h.2.1, g.2.1⟩, ⟨_, _, _, _, h.2.2, g.2.2⟩⟩
end
end Go.Proofs.YtjjlbbfhmpbneaaGreat

namespace Go.Proofs.YtjjlbbfhmpbneaaGreat
set_option maxRecDepth 100000
open Go.ChangeShapes Go.WideShapes Go.ChangeAt Go.RowKit
open Go.Maps (Keyed)
set_option linter.unusedVariables false
set_option linter.unusedSimpArgs false
theorem keyedU : Keyed Tryz.prog 24 := Maps.int_keyed Tryz.underlying24
theorem wfU {k : Nat} (h : k < 18446744073709551616) : (Lit.int .u64 (k : Nat)).wf = true := by
  simp [Lit.wf, IntKind.min, IntKind.max, IntKind.signed, IntKind.bits]; omega
/-- Block b is a map in which no number above m is. -/
def InU (b n m : Nat) (w : World) : Prop :=
  ∃ D : DataW Unit, w.ownsMap Tryz.prog 24 (plainElem Tryz.prog 4) b n D ∧ ∀ k : Nat, m < k → D.atKey (.int .u64 (k : Nat)) (.lit (.bool false)) = .lit (.bool false)
theorem Q.grownU {w w' : World} (q : Q w w') : w.grownBy w' none := ⟨q.os, q.tape, q.output, q.size, fun i hi _ => q.block i hi⟩
theorem InU.made (w : World) : InU w.heap.size 0 0 (w.alloc (.map #[] 0)) := ⟨_, World.ownsMap_made w _ _ _, fun k _ => rfl⟩
theorem InU.lt {b n m : Nat} {w : World} (h : InU b n m w) : b < w.heap.size := by
  obtain ⟨D, h1, h2⟩ := h
  exact h1.lt
theorem InU.on {b n m : Nat} {w w' : World} (h : InU b n m w) (q : Q w w') : InU b n m w' := by
  obtain ⟨D, h1, h2⟩ := h
  exact ⟨D, h1.kept (Q.grownU q) (by simp), h2⟩
theorem InU.kp {b n m p : Nat} {w w' : World} (h : InU b n m w) (g : Kp p w w') (hn : b ≠ p) : InU b n m w' := by
  obtain ⟨D, h1, h2⟩ := h
  exact ⟨D, h1.kept g (by simpa using hn), h2⟩
theorem InU.more {b n n' m m' : Nat} {w : World} (h : InU b n m w) (k : n ≤ n') (k' : m ≤ m') : InU b n' m' w := by
  obtain ⟨D, h1, h2⟩ := h
  exact ⟨D, h1.mono k, fun k hk => h2 k (by omega)⟩
theorem InU.put {b n m k : Nat} {w : World} (h : InU b n m w) (hn : n ≤ 1000000) (hk : k ≤ m) (hz : k < 18446744073709551616) :
    ∃ w', (Instr.mapUpdate 44 (.map (some b)) (.int .u64 (k : Nat)) (.bool true)).run Tryz.prog w = .ok () w' ∧ InU b (n + 1) m w' ∧ Kp b w w' := by
  obtain ⟨D, h1, h2⟩ := h
  obtain ⟨w', hrun, o', g⟩ := h1.update keyedU Tryz.underlying44 (by unfold maxLen; omega) (Maps.keyOf_int_mk Tryz.underlying24 (wfU hz)) (plainElem_bool Tryz.underlying4 true)
  refine ⟨w', hrun, ⟨_, o', fun j hj => ?_⟩, g⟩
  rw [Maps.atKey_put_other (by intro e; injection e with _ e; omega)]
  exact h2 j hj
/-- No cell lies in the map's block. -/
theorem InU.cells {b n m : Nat} {w w' : World} (h : InU b n m w) (g : Kp b w w') : ∀ (p : Addr) (v : Value), w.cell? p = some v → w'.cell? p = some v := by
  obtain ⟨D, ⟨es, clock, hb, -⟩, -⟩ := h
  intro p v hp
  have hne : p.block ≠ b := by
    intro e
    obtain ⟨B, o, x⟩ := p
    simp only at e
    subst e
    cases x <;> simp [World.cell?, hb] at hp
  have hlt : p.block < w.heap.size := by
    obtain ⟨B, o, x⟩ := p
    cases hB : w.heap[B]? with
    | none => cases x <;> simp [World.cell?, hB] at hp
    | some y => exact (Array.getElem?_eq_some_iff.1 hB).1
  rw [World.cell?_of_block (g.block p.block hlt (by simpa using hne))]
  exact hp
section
variable {w w' : World} (k : ∀ (p : Addr) (v : Value), w.cell? p = some v → w'.cell? p = some v)
include k
theorem Vers.sameU {B : Nat} {v : Value} {l : List Ver} (h : Vers w B v l) : Vers w' B v l := by
  obtain ⟨A, c, e, e0, ez, eo, f⟩ := h
  refine ⟨A, c, e, e0, ez, eo, fun i hi => ?_⟩
  obtain ⟨a, e1, e2, h0, h1, h2, h3⟩ := f i hi
  exact ⟨a, e1, e2, k _ _ h0, k _ _ h1, k _ _ h2, k _ _ h3⟩
theorem Ents.sameU {B : Nat} {v : Value} {l : List Ent} (h : Ents w B v l) : Ents w' B v l := by
  obtain ⟨A, c, e, e0, ez, eo, f⟩ := h
  refine ⟨A, c, e, e0, ez, eo, fun i hi => ?_⟩
  obtain ⟨a, e1, e2, h1, u, h2, h3⟩ := f i hi
  exact ⟨a, e1, e2, k _ _ h1, u, k _ _ h2, Vers.sameU k h3⟩
theorem Prts.sameU {B : Nat} {v : Value} {l : List Prt} (h : Prts w B v l) : Prts w' B v l := by
  obtain ⟨A, c, e, e0, ez, eo, f⟩ := h
  refine ⟨A, c, e, e0, ez, eo, fun i hi => ?_⟩
  obtain ⟨a, e1, e2, e3⟩ := f i hi
  exact ⟨a, e1, e2, k _ _ e3.1, k _ _ e3.2⟩
theorem Upls.sameU {B : Nat} {v : Value} {l : List Upl} (h : Upls w B v l) : Upls w' B v l := by
  obtain ⟨A, c, e, e0, ez, eo, f⟩ := h
  refine ⟨A, c, e, e0, ez, eo, fun i hi => ?_⟩
  obtain ⟨a, e1, e2, h0, h1, u, h2, h3⟩ := f i hi
  exact ⟨a, e1, e2, k _ _ h0, k _ _ h1, u, k _ _ h2, Prts.sameU k h3⟩
end
theorem BktV.map {w w' : World} {b : Bkt} {lv uv : Value} {q n m : Nat} (h : BktV w b lv uv) (i : InU q n m w) (g : Kp q w w') : BktV w' b lv uv :=
  ⟨(Ents.sameU (i.cells g) h.1).more g.size, (Upls.sameU (i.cells g) h.2).more g.size⟩
theorem BoxB.map {w w' : World} {b : Bkt} {P q n m : Nat} (h : BoxB w P b) (i : InU q n m w) (g : Kp q w w') (hn : P ≠ q) : BoxB w' P b := by
  obtain ⟨A, c, A', c', h, k⟩ := h
  exact ⟨A, c, A', c', g.bx h hn, k.map i g⟩
theorem BoxD.map {w w' : World} {d : Bkt} {P q n m i k : Nat} {s : ByteArray} (h : BoxD w P d i s k) (j : InU q n m w) (g : Kp q w w') (hn : P ≠ q) : BoxD w' P d i s k := by
  obtain ⟨A, c, A', c', h, k⟩ := h
  exact ⟨A, c, A', c', g.bx h hn, k.map j g⟩
end Go.Proofs.YtjjlbbfhmpbneaaGreat

namespace Go.Proofs.YtjjlbbfhmpbneaaGreat
set_option maxRecDepth 100000
open Go.ChangeShapes Go.WideShapes Go.ChangeAt Go.RowKit
open Go.Maps (Keyed)
set_option linter.unusedVariables false
set_option linter.unusedSimpArgs false
theorem keyedSS : Keyed Tryz.prog 9 := Maps.string_keyed Tryz.underlying9
def keyS (s : ByteArray) : Lit := .string s.data.toList
theorem str_injS {s t : ByteArray} (h : s.data.toList = t.data.toList) : s = t := by
  cases s; cases t; congr 1; exact Array.toList_inj.1 h
theorem keyS_ne {s t : ByteArray} (h : s ≠ t) : keyS s ≠ keyS t := fun e => h (by unfold keyS at e; injection e with e; exact str_injS e)
/-- The map has just the bucket's keys, each with its octets. -/
def tellS (D : DataW Unit) (b : Bkt) : Prop := Maps.size D = b.L.length ∧ ∀ key : ByteArray, (getE b.L key = [] → Maps.has D (keyS key) = false) ∧
  (∀ data tm, getE b.L key = [offV data tm] → Maps.has D (keyS key) = true ∧ D.atKey (keyS key) (.lit (.string [])) = .lit (.string data.data.toList))
def InS (p n : Nat) (b : Bkt) (w : World) : Prop := ∃ D : DataW Unit, w.ownsMap Tryz.prog 9 (plainElem Tryz.prog 9) p n D ∧ tellS D b
theorem InS.made (w : World) : InS w.heap.size 0 awk9.b0 (w.alloc (.map #[] 0)) := ⟨_, World.ownsMap_made w _ _ _, rfl, fun key => ⟨fun _ => rfl, fun data tm h => by cases h⟩⟩
section
variable {p n : Nat} {b d : Bkt} {w w' : World}
theorem InS.lt (h : InS p n b w) : p < w.heap.size := by
  obtain ⟨D, h1, h2⟩ := h
  exact h1.lt
theorem InS.on (h : InS p n b w) (q : Q w w') : InS p n b w' := by
  obtain ⟨D, h1, h2⟩ := h
  exact ⟨D, h1.kept (Q.grownU q) (by simp), h2⟩
theorem InS.kp {r : Nat} (h : InS p n b w) (g : Kp r w w') (hn : p ≠ r) : InS p n b w' := by
  obtain ⟨D, h1, h2⟩ := h
  exact ⟨D, h1.kept g (by simpa using hn), h2⟩
theorem InS.more {n' : Nat} (h : InS p n b w) (k : n ≤ n') : InS p n' b w := by
  obtain ⟨D, h1, h2⟩ := h
  exact ⟨D, h1.mono k, h2⟩
theorem InS.yes (h : InS p n b w) {key data : ByteArray} {tm : Int} (hg : getE b.L key = [offV data tm]) (hz : key.size ≤ maxLen) : (Instr.lookup 72 (.map (some p)) (.string key) true).run Tryz.prog w = .ok (.tuple #[.string data, .bool true]) w := by
  obtain ⟨D, h1, h2⟩ := h
  obtain ⟨v, ps, hrun, hv⟩ := h1.look_ok keyedSS Tryz.underlying72 (z := .string ⟨#[]⟩) (by rfl) (plainElem_string Tryz.underlying9 (s := ⟨#[]⟩) (by decide)) (WideMaps.keyOf_string_mk Tryz.underlying9 hz)
  obtain ⟨e1, e2⟩ := (h2.2 key).2 data tm hg
  obtain ⟨s, rfl, hq, -⟩ := plainElem_string_inv Tryz.underlying9 hv
  rw [show Maps.has D (.string key.data.toList) = true from e1] at hrun
  have e3 : D.atKey (keyS key) (.lit (.string [])) = .lit (.string s.data.toList) := (Prod.mk.inj hq).1
  rw [e2] at e3
  injection e3 with e3
  injection e3 with e3
  rw [str_injS e3]
  exact hrun
theorem InS.no (h : InS p n b w) {key : ByteArray} (hg : getE b.L key = []) (hz : key.size ≤ maxLen) : ∃ s : ByteArray, (Instr.lookup 72 (.map (some p)) (.string key) true).run Tryz.prog w = .ok (.tuple #[.string s, .bool false]) w := by
  obtain ⟨D, h1, h2⟩ := h
  obtain ⟨v, ps, hrun, hv⟩ := h1.look_ok keyedSS Tryz.underlying72 (z := .string ⟨#[]⟩) (by rfl) (plainElem_string Tryz.underlying9 (s := ⟨#[]⟩) (by decide)) (WideMaps.keyOf_string_mk Tryz.underlying9 hz)
  rw [show Maps.has D (.string key.data.toList) = false from (h2.2 key).1 hg] at hrun
  obtain ⟨s, rfl, -, -⟩ := plainElem_string_inv Tryz.underlying9 hv
  exact ⟨s, hrun⟩
theorem InS.len (h : InS p n b w) (ty : TypeId) : (Builtin.len_ #[72] ty #[.map (some p)]).run Tryz.prog w = .ok (.int .i64 (b.L.length : Nat)) w := by
  obtain ⟨D, h1, h2⟩ := h
  rw [h1.len Tryz.underlying72 ty, h2.1]
/-- What a put comes to in the map. -/
theorem InS.put (h : InS p n b w) (ho : OffB b) (hn : n ≤ 1000000) {key data : ByteArray} {tm : Int} (hz : key.size ≤ maxLen) (hd : data.size ≤ maxLen) (h1 : getE d.L key = [offV data tm]) (h2 : ∀ other, other ≠ key → getE d.L other = getE b.L other) (h3 : d.L.length + oneIf (getE b.L key) = b.L.length + 1) :
    ∃ w', (Instr.mapUpdate 72 (.map (some p)) (.string key) (.string data)).run Tryz.prog w = .ok () w' ∧ InS p (n + 1) d w' ∧ Kp p w w' := by
  obtain ⟨D, o, ts, tk⟩ := h
  obtain ⟨w', hrun, o', g⟩ := o.update keyedSS Tryz.underlying72 (by unfold maxLen; omega) (WideMaps.keyOf_string_mk Tryz.underlying9 hz) (plainElem_string Tryz.underlying9 hd)
  have td := o.tidy keyedSS
  have ik : WideAt.IsKeyLit (keyS key) := by simp [WideAt.IsKeyLit, keyS]
  refine ⟨w', hrun, ⟨_, o', ?_, fun k => ?_⟩, g⟩
  · have := Maps.size_put (k := keyS key) td (.lit (.string data.data.toList))
    have e : Maps.size (D.put (keyS key) (.lit (.string data.data.toList))) = d.L.length := by
      rw [this]
      rcases off_get ho key with hg | ⟨x, y, hg⟩
      · rw [(tk key).1 hg]; rw [hg] at h3; have : oneIf ([] : List Ver) = 0 := rfl; simp; omega
      · rw [((tk key).2 x y hg).1]; rw [hg] at h3; have : oneIf [offV x y] = 1 := rfl; simp; omega
    exact e
  · by_cases hk : k = key
    · subst hk
      refine ⟨fun hg => ?_, fun x y hg => ?_⟩
      · rw [h1] at hg; cases hg
      · rw [h1] at hg
        have hx : data = x := by simp only [offV, List.cons.injEq, and_true] at hg; injection hg
        subst hx
        exact ⟨Maps.has_put_same td.isMap ik _, Maps.atKey_put_same td.isMap ik _ _⟩
    · rw [h2 k hk]
      refine ⟨fun hg => (Maps.has_put_other (keyS_ne hk) _).trans ((tk k).1 hg), fun x y hg => ⟨(Maps.has_put_other (keyS_ne hk) _).trans ((tk k).2 x y hg).1, (Maps.atKey_put_other (keyS_ne hk) _ _).trans ((tk k).2 x y hg).2⟩⟩
theorem InS.del (h : InS p n b w) (ho : OffB b) {key : ByteArray} (hz : key.size ≤ maxLen) (ty : TypeId) (h0 : getE b.L key ≠ []) (h1 : getE d.L key = []) (h2 : ∀ other, other ≠ key → getE d.L other = getE b.L other) (h3 : d.L.length + 1 = b.L.length) :
    ∃ w', (Builtin.delete_ #[72, 9] ty #[.map (some p), .string key]).run Tryz.prog w = .ok (.tuple #[]) w' ∧ InS p n d w' ∧ Kp p w w' := by
  obtain ⟨D, o, ts, tk⟩ := h
  obtain ⟨w', hrun, o', g⟩ := o.drop keyedSS Tryz.underlying72 (WideMaps.keyOf_string_mk Tryz.underlying9 hz) ty
  have td := o.tidy keyedSS
  refine ⟨w', hrun, ⟨_, o', ?_, fun k => ?_⟩, g.grown⟩
  · have e := Maps.size_del (k := keyS key) td
    have hh : Maps.has D (keyS key) = true := by
      rcases off_get ho key with hg | ⟨x, y, hg⟩
      · exact absurd hg h0
      · exact ((tk key).2 x y hg).1
    rw [hh] at e
    have e2 : Maps.size (D.del (keyS key)) = d.L.length := by simp at e; omega
    exact e2
  · by_cases hk : k = key
    · subst hk
      refine ⟨fun hg => Maps.has_del_same, fun x y hg => ?_⟩
      rw [h1] at hg; cases hg
    · rw [h2 k hk]
      refine ⟨fun hg => (Maps.has_del_other (keyS_ne hk)).trans ((tk k).1 hg), fun x y hg => ⟨(Maps.has_del_other (keyS_ne hk)).trans ((tk k).2 x y hg).1, (Maps.atKey_del_other (keyS_ne hk) _).trans ((tk k).2 x y hg).2⟩⟩
end
/-- No cell lies in the map's block. -/
theorem InS.cells {p n : Nat} {b : Bkt} {w w' : World} (h : InS p n b w) (g : Kp p w w') : ∀ (q : Addr) (v : Value), w.cell? q = some v → w'.cell? q = some v := by
  obtain ⟨D, ⟨es, clock, hb, -⟩, -⟩ := h
  intro q v hp
  have hne : q.block ≠ p := by
    intro e
    obtain ⟨B, o, x⟩ := q
    simp only at e
    subst e
    cases x <;> simp [World.cell?, hb] at hp
  have hlt : q.block < w.heap.size := by
    obtain ⟨B, o, x⟩ := q
    cases hB : w.heap[B]? with
    | none => cases x <;> simp [World.cell?, hB] at hp
    | some y => exact (Array.getElem?_eq_some_iff.1 hB).1
  rw [World.cell?_of_block (g.block q.block hlt (by simpa using hne))]
  exact hp
theorem Pces.sameU {w w' : World} (k : ∀ (p : Addr) (v : Value), w.cell? p = some v → w'.cell? p = some v) {B : Nat} {v : Value} {l : List Pce} (h : Pces w B v l) : Pces w' B v l := by
  obtain ⟨A, c, e, e0, ez, eo, f⟩ := h
  refine ⟨A, c, e, e0, ez, eo, fun i hi => ?_⟩
  obtain ⟨a, e1, e2, e3⟩ := f i hi
  exact ⟨a, e1, e2, k _ _ e3.1, k _ _ e3.2⟩
theorem BktV.sameU {w w' : World} (k : ∀ (p : Addr) (v : Value), w.cell? p = some v → w'.cell? p = some v) (hs : w.heap.size ≤ w'.heap.size) {b : Bkt} {lv uv : Value} (h : BktV w b lv uv) : BktV w' b lv uv :=
  ⟨(Ents.sameU k h.1).more hs, (Upls.sameU k h.2).more hs⟩
theorem BoxB.sameU {w w' : World} {b : Bkt} {P q : Nat} (h : BoxB w P b) (k : ∀ (p : Addr) (v : Value), w.cell? p = some v → w'.cell? p = some v) (g : Kp q w w') (hn : P ≠ q) : BoxB w' P b := by
  obtain ⟨A, c, A', c', h, v⟩ := h
  exact ⟨A, c, A', c', g.bx h hn, v.sameU k g.size⟩
theorem BoxD.sameU {w w' : World} {d : Bkt} {P q i j : Nat} {s : ByteArray} (h : BoxD w P d i s j) (k : ∀ (p : Addr) (v : Value), w.cell? p = some v → w'.cell? p = some v) (g : Kp q w w') (hn : P ≠ q) : BoxD w' P d i s j := by
  obtain ⟨A, c, A', c', h, v⟩ := h
  exact ⟨A, c, A', c', g.bx h hn, v.sameU k g.size⟩
theorem BoxA.sameU {w w' : World} {a : Actn} {P q : Nat} (h : BoxA w P a) (k : ∀ (p : Addr) (v : Value), w.cell? p = some v → w'.cell? p = some v) (g : Kp q w w') (hn : P ≠ q) : BoxA w' P a := by
  obtain ⟨A, c, h, v⟩ := h
  exact ⟨A, c, g.bx h hn, (Pces.sameU k v).more g.size⟩
/-- A write of a map, and a delete, at the operation, by what their run comes to. -/
theorem wpList_run_put {w w' : World} {ops : Array Oper} {rest : List Oper} {o : Oper} {a : Act} {Z : Exit → Act → World → Prop} {t : TypeId} {p : Nat} {key val : Value}
    (hrun : (Instr.mapUpdate t (.map (some p)) key val).run Tryz.prog w = .ok () w') (hg : o.guard = none) (x y v : Operand) (hop : o.op = Op.mapUpdate t x y v)
    (hm : a.eval x = .map (some p)) (hy : a.eval y = key) (hv : a.eval v = val) (hK : wpList Tryz.prog ops Z rest (a.put o.dst undef) w') : wpList Tryz.prog ops Z (o :: rest) a w := by
  refine wpList_plain hg fun K' hK' => ?_
  unfold Oper.wp
  simp [execOp, hop, hm, hy, hv, hrun, Result.andThen]
  exact hK' _ _ hK
theorem wpList_run_del {w w' : World} {ops : Array Oper} {rest : List Oper} {o : Oper} {a : Act} {Z : Exit → Act → World → Prop} {t k : TypeId} {p : Nat} {key : Value}
    (hrun : (Builtin.delete_ #[t, k] o.type #[.map (some p), key]).run Tryz.prog w = .ok (.tuple #[]) w') (hg : o.guard = none) (x y : Operand) (hop : o.op = Op.call { callee := Callee.builtin Builtin.delete, args := #[x, y], argTypes := #[t, k] })
    (hm : a.eval x = .map (some p)) (hy : a.eval y = key) (hK : wpList Tryz.prog ops Z rest (a.put o.dst (.tuple #[])) w') : wpList Tryz.prog ops Z (o :: rest) a w := by
  refine wpList_plain hg fun K' hK' => ?_
  unfold Oper.wp
  simp [execOp, hop, resolve, invoke, builtin, hm, hy, hrun, Result.andThen]
  exact hK' _ _ hK
end Go.Proofs.YtjjlbbfhmpbneaaGreat

namespace Go.Proofs.YtjjlbbfhmpbneaaGreat
set_option maxRecDepth 100000
open Go.ChangeShapes Go.WideShapes Go.ChangeAt Go.RowKit
set_option linter.unusedVariables false
set_option linter.unusedSimpArgs false
/-- The parts as pieces, and their octets. -/
noncomputable def pcsB (L : List Prt) : List Pce := L.map fun p => ⟨p.n, crc (bl p.data)⟩
def datsB (L : List Prt) : List UInt8 := L.flatMap fun p => bl p.data
/-- A bucket with one upload more. -/
def upB (b : Bkt) (key : ByteArray) (L : List Prt) : Bkt := { b with last := b.last + 1, U := b.U ++ [⟨b.last + 1, key, L⟩] }
theorem beg_zero {b d : Bkt} {key : ByteArray} {n t : Nat} {s : ByteArray} (h : FinC b (BegR b key) d n t s 0) : okB b ∧ okB d ∧ hasO 1 60 ko key = true ∧ d = upB b key [] ∧ n = b.last + 1 := by
  have hd : okB b → okB d := fun hb => fin_ok begR_ok hb h
  obtain ⟨hb, ⟨hr, -, -⟩, -⟩ := fin_done h
  rcases hr with ⟨-, -, -, h⟩ | ⟨hk, b1, m1, k1, hg, ⟨h0, -, -, h⟩ | ⟨rfl, rfl, U, hB, rfl⟩⟩
  · omega
  · exact absurd h.symm h0
  · rcases hg with ⟨-, -, -, h⟩ | ⟨-, rfl, rfl, -⟩
    · omega
    · cases hB with
      | yes => exact ⟨hb, hd hb, hk, rfl, rfl⟩
theorem up_at {b : Bkt} (h : okNumU b.U b.last) (u : Upl) {i : Nat} (hi : i < (b.U ++ [u]).length) (e : (b.U ++ [u])[i].id = b.last + 1) : i = b.U.length := by
  rw [List.length_append, List.length_singleton] at hi
  by_cases hl : i < b.U.length
  · rw [List.getElem_append_left hl] at e
    have := h _ (List.getElem_mem hl)
    omega
  · omega
theorem up_last (l : List Upl) (u : Upl) : (l ++ [u])[l.length]'(by simp) = u := by simp
theorem with_first {L : List Prt} {p : Prt} (h : ∀ x ∈ L, p.n < x.n) : withP L p = p :: L := by
  have e1 : L.filter (fun x => decide (x.n < p.n)) = [] := List.filter_eq_nil_iff.2 fun x hx g => by
    have := h x hx; simp at g; omega
  have e2 : L.filter (fun x => decide (p.n < x.n)) = L := List.filter_eq_self.2 fun x hx => by simpa using h x hx
  rw [withP, e1, e2]; rfl
theorem lay_up {b : Bkt} {key : ByteArray} {L : List Prt} {p : Prt} (hb : okB b) (h : okB (upB b key L)) (hp : mayP p = true) (hL : ∀ x ∈ L, p.n < x.n) (hl : L.length < 30) {d : Bkt} {n t : Nat} {s : ByteArray} {k : Nat}
    (g : FinC (upB b key L) (LayR (upB b key L) (b.last + 1) p) d n t s k) : (k = 0 ∧ d = upB b key (p :: L) ∧ okB d ∧ t = crc (bl p.data)) ∨ k = 6 := by
  have hd : okB d := fin_ok layR_ok h g
  have nu := hb.2.2.2.2.2.1.2
  have ou := h.2.2.2.2.1
  rcases g with ⟨g, -⟩ | ⟨-, d1, n1, t1, s1, k1, ⟨⟨U, hL2, rfl⟩, -, -⟩, g⟩
  · exact absurd h g
  have key2 : (k1 = 0 ∧ U = b.U ++ [⟨b.last + 1, key, p :: L⟩] ∧ t1 = crc (bl p.data)) ∨ k1 = 6 := by
    cases hL2 with
    | arg h0 => exact absurd ⟨ou, hp⟩ h0
    | none _ _ h0 => exact absurd (congrArg Upl.id (up_last b.U ⟨b.last + 1, key, L⟩)) (h0 b.U.length (by show _ < (b.U ++ [_]).length; simp))
    | large i hi h1 h2 h3 h4 h5 => exact .inr rfl
    | yes i hi h1 h2 h3 h4 h5 =>
      obtain rfl := up_at nu _ hi h3
      refine .inl ⟨rfl, ?_, rfl⟩
      have e : (upB b key L).U[b.U.length]'hi = ⟨b.last + 1, key, L⟩ := up_last _ _
      rw [e, with_first hL]
      show (b.U ++ [_]).set b.U.length _ = _
      rw [List.set_append_right _ _ (Nat.le_refl _)]
      simp
  rcases key2 with ⟨rfl, rfl, rfl⟩ | rfl
  · rcases g with ⟨h0, -⟩ | ⟨-, -, -, rfl⟩ | ⟨-, -, ⟨rfl, -, rfl, -⟩, rfl⟩
    · exact absurd rfl h0
    · exact .inr rfl
    · exact .inl ⟨rfl, rfl, hd, rfl⟩
  · rcases g with ⟨-, -, h⟩ | ⟨h0, -⟩ | ⟨h0, -⟩
    · exact .inr h
    · omega
    · omega
theorem flat_sameB {f g : Prt → List UInt8} : ∀ l : List Prt, (∀ x ∈ l, f x = g x) → l.flatMap f = l.flatMap g
  | [], _ => rfl
  | a :: r, h => by rw [List.flatMap_cons, List.flatMap_cons, h a (by simp), flat_sameB r (fun x hx => h x (by simp [hx]))]
theorem okL_ltB {L : List Prt} (h : okL L) (i j : Nat) (hij : i < j) (hj : j < L.length) : (L[i]'(by omega)).n < L[j].n := List.pairwise_iff_getElem.1 (okL_iff.1 h).2 i j (by omega) hj hij
/-- What Whole answers of the pieces of all parts, none of them short. -/
theorem whole_all {u : Upl} (hU : okUp u) (h5 : ∀ x ∈ u.L, 5 ≤ x.data.size) {S T : List UInt8} {f : Nat} (h : WholeC u (pcsB u.L) S T f) :
    (f = 1 ∧ u.L = []) ∨ (u.L ≠ [] ∧ (f = 6 ∨ (f = 0 ∧ S = datsB u.L ∧ S.length ≤ 2000))) := by
  have hlen : (pcsB u.L).length = u.L.length := by rw [pcsB, List.length_map]
  have hP : ∀ i (hi : i < u.L.length), PartC u.L u.L[i].n u.L[i] true := fun i hi => .yes i hi rfl fun j hj hl e => by have := okL_ltB hU.2.2 j i hj hi; omega
  have hr : riseP (pcsB u.L) := fun i hi => by
    rw [hlen] at hi
    have := okL_ltB hU.2.2 i (i + 1) (by omega) hi
    simpa [pcsB] using this
  have hk : (pcsB u.L).any (lackB u.L) = false := by
    rw [List.any_eq_false]
    intro x hx
    obtain ⟨p, hp, rfl⟩ := List.mem_map.1 hx
    obtain ⟨i, hi, rfl⟩ := List.getElem_of_mem hp
    rw [lb_of (hP i hi)]; simp
  have hd : catB u.L (pcsB u.L) = datsB u.L := by
    rw [catB, pcsB, datsB, List.flatMap_map]
    exact flat_sameB u.L fun p hp => by
      obtain ⟨i, hi, rfl⟩ := List.getElem_of_mem hp
      rw [partD_is (hP i hi)]
  have hso : ((pcsB u.L).take ((pcsB u.L).length - 1)).any (lackO u.L) = false := by
    rw [List.any_eq_false]
    intro x hx
    obtain ⟨p, hp, rfl⟩ := List.mem_map.1 (List.mem_of_mem_take hx)
    obtain ⟨i, hi, rfl⟩ := List.getElem_of_mem hp
    rw [lackO_is (x := ⟨u.L[i].n, crc (bl u.L[i].data)⟩) (hP i hi)]
    have := h5 _ (List.getElem_mem hi)
    simp; omega
  have hne : 1 ≤ (pcsB u.L).length → u.L ≠ [] := fun h e => by rw [hlen, e] at h; simp at h
  cases h with
  | arg h0 =>
    refine .inl ⟨rfl, ?_⟩
    by_cases hn : u.L = []
    · exact hn
    · exact absurd ⟨hU, by rw [hlen]; exact List.length_pos_iff.2 hn⟩ h0
  | order _ _ h0 => exact absurd hr h0
  | none _ _ _ h0 => rw [hk] at h0; cases h0
  | short _ _ _ _ h0 => rw [hso] at h0; cases h0
  | large _ h1 => exact .inr ⟨hne h1, .inl rfl⟩
  | yes _ h1 _ _ _ h2 => exact .inr ⟨hne h1, .inr ⟨rfl, hd, by omega⟩⟩
theorem rm_last {b : Bkt} (h : okNumU b.U b.last) (key : ByteArray) (L : List Prt) : rmU (b.U ++ [⟨b.last + 1, key, L⟩]) (b.last + 1) = b.U := by
  rw [rmU, List.filter_append]
  have e1 : b.U.filter (fun x => decide (x.id ≠ b.last + 1)) = b.U := List.filter_eq_self.2 fun x hx => by
    have := h x hx
    simp; omega
  rw [e1]; simp
/-- What a put at the greatest time comes to. -/
theorem put_up {b d : Bkt} {key data : ByteArray} {m k : Nat} (hb : okQ b) (hk : hasO 1 60 ko key = true) (hd : data.size ≤ 2000) (h : WPut b 0 key data 1099511627775 d m k) :
    k = 6 ∨ (k = 0 ∧ d.U = b.U ∧ ∃ id r, getE d.L key = ⟨id, data, false, 1099511627775⟩ :: r) := by
  obtain ⟨b1, m1, k1, hg, hS⟩ := h
  have ow := okI_rise hb.2.2.2.1
  rcases hg with ⟨h0, -⟩ | ⟨-, hst, rfl, rfl, rfl⟩ | ⟨-, hst, hg⟩
  · rw [hk] at h0; cases h0
  · rcases hS with ⟨h0, -⟩ | ⟨-, rfl, l, e, hM, hS⟩
    · exact absurd rfl h0
    have okg := getE_okP hb.2.2.2.1 key
    have hmv : mayV ⟨0, data, false, 1099511627775⟩ = true := by simp [mayV, hd]
    have hall : ∀ y ∈ getE b1.L key, y.tm ≤ 1099511627775 := fun y hy => by
      have := (okP_iff.1 okg).2.1 y hy
      simp only [mayV, Bool.and_eq_true, decide_eq_true_eq] at this
      exact this.2
    have hpc : e = 6 ∨ (e = 0 ∧ l = ⟨0, data, false, 1099511627775⟩ :: woV (getE b1.L key) 0) := by
      cases hM with
      | chk h0 => exact absurd okg h0
      | state _ h0 => have := hb.2.1; omega
      | may _ _ _ h0 => rw [hmv] at h0; cases h0
      | zero _ h0 => omega
      | late _ _ _ _ _ h0 =>
        obtain ⟨y, m, e1, h1⟩ := h0
        have := hall y (by rw [e1]; exact List.mem_cons_self)
        simp only at h1
        omega
      | order _ h0 => omega
      | large _ h0 => omega
      | on _ h0 => omega
      | large0 => exact .inl rfl
      | over => exact .inr ⟨rfl, rfl⟩
    rcases hpc with rfl | ⟨rfl, rfl⟩
    · rcases hS with ⟨-, -, h⟩ | ⟨h0, -⟩
      · exact .inl h
      · omega
    · rcases hS with ⟨h0, -⟩ | ⟨-, L, j, hP, rfl, rfl⟩
      · exact absurd rfl h0
      · rcases hP with ⟨h0, -, -⟩ | ⟨-, ⟨-, -, h0⟩ | ⟨-, rfl, rfl⟩⟩
        · exact absurd ⟨hb.2.2.2.1, hk, putC_ok hM⟩ h0
        · exact .inl h0
        · exact .inr ⟨rfl, rfl, 0, _, getE_put ow _ _⟩
  · rcases hg with ⟨-, rfl, rfl, rfl⟩ | ⟨h9, rfl, rfl, rfl⟩
    · rcases hS with ⟨-, -, -, h⟩ | ⟨h0, -⟩
      · exact .inl h
      · omega
    rcases hS with ⟨h0, -⟩ | ⟨-, rfl, l, e, hM, hS⟩
    · exact absurd rfl h0
    have okg := getE_okP hb.2.2.2.1 key
    have hmv : mayV ⟨b.last + 1, data, false, 1099511627775⟩ = true := by simp [mayV, hd]; omega
    have hall : ∀ y ∈ getE b.L key, y.tm ≤ 1099511627775 := fun y hy => by
      have := (okP_iff.1 okg).2.1 y hy
      simp only [mayV, Bool.and_eq_true, decide_eq_true_eq] at this
      exact this.2
    have hnum := getE_num key hb.2.2.2.2.2.1
    have htop : topB b = b.last := by unfold topB; rw [if_neg (by omega)]
    rw [htop] at hnum
    have hpc : e = 6 ∨ (e = 0 ∧ l = ⟨b.last + 1, data, false, 1099511627775⟩ :: getE b.L key) := by
      cases hM with
      | chk h0 => exact absurd okg h0
      | state _ h0 => have : b.st < 0 ∨ 2 < b.st := h0; omega
      | may _ _ _ h0 => rw [hmv] at h0; cases h0
      | zero _ _ _ h0 => simp only at h0; omega
      | late _ _ _ _ _ h0 =>
        obtain ⟨y, m, e1, h1⟩ := h0
        have := hall y (by rw [show getE b.L key = _ from e1]; exact List.mem_cons_self)
        simp only at h1
        omega
      | order _ _ _ _ _ h0 =>
        obtain ⟨y, hy, h1⟩ := List.any_eq_true.1 h0
        have := hnum y hy
        simp at h1
        omega
      | large => exact .inl rfl
      | on => exact .inr ⟨rfl, rfl⟩
      | large0 _ h0 => have : b.st = 0 ∨ b.st = 2 := h0; omega
      | over _ h0 => have : b.st = 0 ∨ b.st = 2 := h0; omega
    rcases hpc with rfl | ⟨rfl, rfl⟩
    · rcases hS with ⟨-, -, h⟩ | ⟨h0, -⟩
      · exact .inl h
      · omega
    · rcases hS with ⟨h0, -⟩ | ⟨-, L, j, hP, rfl, rfl⟩
      · exact absurd rfl h0
      · rcases hP with ⟨h0, -, -⟩ | ⟨-, ⟨-, -, h0⟩ | ⟨-, rfl, rfl⟩⟩
        · exact absurd ⟨hb.2.2.2.1, hk, putC_ok hM⟩ h0
        · exact .inl h0
        · exact .inr ⟨rfl, rfl, b.last + 1, _, getE_put ow _ _⟩
theorem who_up {b : Bkt} {key : ByteArray} {L : List Prt} (hb : okB b) (h : okB (upB b key L)) (hk : hasO 1 60 ko key = true) (h5 : ∀ x ∈ L, 5 ≤ x.data.size) {d : Bkt} {n t : Nat} {s : ByteArray} {k : Nat}
    (g : FinC (upB b key L) (WhoR (upB b key L) (b.last + 1) (pcsB L) 1099511627775) d n t s k) :
    okB d ∧ ((k = 1 ∧ L = [] ∧ d = upB b key L) ∨ (L ≠ [] ∧ ((k = 6 ∧ d = upB b key L) ∨ (k = 0 ∧ d.U.length = b.U.length ∧ ∃ id r, getE d.L key = ⟨id, mk (datsB L), false, 1099511627775⟩ :: r)))) := by
  have hd : okB d := fin_ok whoR_ok h g
  refine ⟨hd, ?_⟩
  have nu := hb.2.2.2.2.2.1.2
  have ou := h.2.2.2.2.1
  have hq := (okB_q.1 h).1
  have hU : okUp ⟨b.last + 1, key, L⟩ := (okUps_iff.1 ou).2.1 _ (by show _ ∈ b.U ++ [_]; simp)
  have ge := fun (hk : k ≠ 0) => (fin_err g hk).1
  rcases g with ⟨g, -⟩ | ⟨-, d1, n1, t1, s1, k1, ⟨⟨u, e, hF, hW⟩, -⟩, g⟩
  · exact absurd h g
  obtain ⟨rfl, rfl⟩ : u = ⟨b.last + 1, key, L⟩ ∧ e = 0 := by
    cases hF with
    | arg h0 => exact absurd ou h0
    | none _ h0 => exact absurd (congrArg Upl.id (up_last b.U ⟨b.last + 1, key, L⟩)) (h0 b.U.length (by show _ < (b.U ++ [_]).length; simp))
    | yes i hi h1 h2 h3 =>
      obtain rfl := up_at nu _ hi h2
      exact ⟨up_last _ _, rfl⟩
  rcases hW with ⟨h0, -⟩ | ⟨-, S, T, f, hW, hP⟩
  · exact absurd rfl h0
  have all := whole_all (u := ⟨b.last + 1, key, L⟩) hU h5 hW
  have err : k1 ≠ 0 → k = k1 := fun h0 => by
    rcases g with ⟨-, -, h⟩ | ⟨h1, -⟩ | ⟨h1, -⟩
    · exact h
    · exact absurd h1 h0
    · exact absurd h1 h0
  rcases all with ⟨rfl, hn⟩ | ⟨hn, rfl | ⟨rfl, rfl, hl⟩⟩
  · rcases hP with ⟨-, -, -, -, rfl⟩ | ⟨h0, -⟩
    · have e := err (by omega)
      exact .inl ⟨e, hn, ge (by omega)⟩
    · omega
  · rcases hP with ⟨-, -, -, -, rfl⟩ | ⟨h0, -⟩
    · have e := err (by omega)
      exact .inr ⟨hn, .inl ⟨e, ge (by omega)⟩⟩
    · omega
  · rcases hP with ⟨h0, -⟩ | ⟨-, -, U, j, hA, hP⟩
    · exact absurd rfl h0
    have hj := abort_zero hF hA
    subst hj
    have hq2 := abort_ok hq hA
    have hUU : U = b.U := by
      cases hA with
      | yes => exact rm_last nu _ _
    subst hUU
    have P := put_up hq2 hk (by rw [mk_size]; exact hl) hP
    rcases P with rfl | ⟨rfl, hdu, hget⟩
    · have e := err (by omega)
      exact .inr ⟨hn, .inl ⟨e, ge (by omega)⟩⟩
    · rcases g with ⟨h0, -⟩ | ⟨-, -, -, rfl⟩ | ⟨-, -, ⟨rfl, -⟩, rfl⟩
      · exact absurd rfl h0
      · exact .inr ⟨hn, .inl ⟨rfl, ge (by omega)⟩⟩
      · exact .inr ⟨hn, .inr ⟨rfl, by rw [hdu], hget⟩⟩
theorem pcsB_cons (p : Prt) (L : List Prt) : pcsB (p :: L) = [⟨p.n, crc (bl p.data)⟩] ++ pcsB L := rfl
theorem datsB_cons (p : Prt) (L : List Prt) : datsB (p :: L) = bl p.data ++ datsB L := by rw [datsB, List.flatMap_cons]; rfl
end Go.Proofs.YtjjlbbfhmpbneaaGreat

namespace Go.Proofs.YtjjlbbfhmpbneaaGreat
set_option maxRecDepth 100000
open Go.ChangeShapes Go.WideShapes Go.ChangeAt Go.RowKit
set_option linter.unusedVariables false
theorem cells_strB : Tryz.prog.cellsOf 9 = 1 := by kernel_rfl
theorem weight_str {H : Type} (e : TypeId) {l : List ByteArray} {s : ByteArray} (h : s ∈ l) : s.size ∈ DataW.weightsAll (H := H) Tryz.prog e (strs l) := by
  induction l with
  | nil => cases h
  | cons x r ih =>
    simp only [strs, List.map_cons, DataW.weightsAll, DataW.weights, List.mem_append] at ih ⊢
    rcases List.mem_cons.1 h with rfl | h
    · left; simp
    · right; exact ih h
theorem open_txtsS {H : Type} {enc : TypeId × Value → H} {W : World} {b : Nat} {v : Value} {d : DataW H} {p : List MemPlace} (hv : Value.okWide Tryz.prog W .any b 56 v)
    (h : DataW.Trod enc Tryz.prog W 0 (fun _ => true) true 56 v d p) (hz9 : ∀ n ∈ DataW.weights Tryz.prog 56 d, n ≤ reachBytes) : ∃ l : List ByteArray, Txts W W.heap.size v l ∧ l.length ≤ maxLen ∧ ∀ s ∈ l, s.size ≤ 140737488351232 := by
  obtain ⟨a0, len, cap, rfl⟩ := okWide_slice Tryz.underlying56 hv
  obtain ⟨fuel, hf⟩ := h
  rcases open_strings Tryz.underlying56 Tryz.underlying9 cells_strB hf with ⟨hcs, hx⟩ | ⟨a, len', cap', ss, hcs, _, hl, hm, hz, hx, hcell, hws⟩
  · simp [Value.cells] at hcs
    obtain ⟨rfl, rfl, rfl⟩ := hcs
    exact ⟨[], Txts.nil _ _, by simp, by simp⟩
  · simp [Value.cells] at hcs
    obtain ⟨rfl, rfl, rfl⟩ := hcs
    simp only [if_true] at hz
    have hlen : (ss.take len).length = len := by rw [List.length_take]; omega
    refine ⟨ss.take len, ⟨some a, cap, by rw [hlen], fun k hk => ⟨a, rfl, ?_, ?_⟩⟩, by rw [hlen]; omega, fun s hs => ?_⟩
    · have := World.block_lt_of_cell? W _ (hcell k (by omega))
      rw [add_block] at this; exact this
    · rw [hcell k (by omega)]
      have : k < ss.length := by omega
      simp [List.getD, List.getElem?_eq_getElem this]
    · have := hz9 s.size (by rw [(Prod.mk.inj hx).1]; simp only [DataW.weights, Tryz.underlying56]; exact List.mem_cons_of_mem _ (List.mem_append_left _ (weight_str _ hs)))
      unfold reachBytes at this
      exact this
end Go.Proofs.YtjjlbbfhmpbneaaGreat

namespace Go.Proofs.YtjjlbbfhmpbneaaGreat
set_option maxRecDepth 100000
open Go.ChangeShapes Go.WideShapes Go.ChangeAt Go.RowKit
set_option linter.unusedVariables false
set_option linter.unusedSimpArgs false
theorem findB_ne {l : List Ver} {x : Ver} {n : Nat} (h : x.id ≠ n) : findV (x :: l) n = findV l n := by
  unfold findV; rw [List.find?_cons_of_neg (by simp [h])]
theorem findB_eq {l : List Ver} {x : Ver} : findV (x :: l) x.id = some x := by
  unfold findV; rw [List.find?_cons_of_pos (by simp)]
theorem findB_mem {l : List Ver} {n : Nat} {x : Ver} (h : findV l n = some x) : x ∈ l ∧ x.id = n := by
  unfold findV at h
  exact ⟨List.mem_of_find?_eq_some h, by simpa using List.find?_some h⟩
/-- What was found is found. -/
def KeepsB (b d : Bkt) : Prop := b.last ≤ d.last ∧ ∀ (k : ByteArray) (id : Nat) (x : Ver), findV (getE b.L k) id = some x → findV (getE d.L k) id = some x
theorem KeepsB.refl (b : Bkt) : KeepsB b b := ⟨Nat.le_refl _, fun _ _ _ h => h⟩
/-- A new version at a key. -/
theorem keeps_set {b b1 d : Bkt} {key : ByteArray} {x : Ver} {M : List Ver → Nat → Prop} (hb : okQ b) (hst : b.st = 1) (h1 : b1.L = b.L) (h2 : b1.st = b.st) (h3 : b1.last = b.last + 1) (hx : x.id = b.last + 1)
    (hM : ∀ L, M L 0 → PutC (getE b1.L key) b1.st x L 0) (h : SetC b1 key M d 0) : d.st = 1 ∧ KeepsB b d ∧ d.last = b.last + 1 ∧ findV (getE d.L key) x.id = some x := by
  obtain ⟨L, hL, -, rfl⟩ := setC_zero h
  have hp := hM L hL
  rw [h1, h2, hst] at hp
  have rb := okI_rise hb.2.2.2.1
  have hnum := hb.2.2.2.2.2.1
  have htop : topB b = b.last := by unfold topB; rw [if_neg (by omega)]
  rw [htop] at hnum
  cases hp with
  | on =>
    refine ⟨h2.trans hst, ⟨by show b.last ≤ b1.last; omega, fun k id y hy => ?_⟩, h3, ?_⟩
    · obtain ⟨hy1, hy2⟩ := findB_mem hy
      have hle : id ≤ b.last := by have := getE_num k hnum y hy1; omega
      show findV (getE (putE b1.L key _) k) id = some y
      rw [h1]
      by_cases hk : k = key
      · subst hk
        rw [getE_put rb, findB_ne (by omega)]
        exact hy
      · rw [getE_other rb _ hk]; exact hy
    · show findV (getE (putE b1.L key _) key) x.id = some x
      rw [h1, getE_put rb]
      exact findB_eq
  | over _ h => omega
theorem wput_keeps {b d : Bkt} {key data : ByteArray} {tm : Int} {n : Nat} (hb : okQ b) (hst : b.st = 1) (h : WPut b 0 key data tm d n 0) :
    d.st = 1 ∧ KeepsB b d ∧ n = b.last + 1 ∧ d.last = b.last + 1 ∧ hasO 1 60 ko key = true ∧ findV (getE d.L key) n = some ⟨n, data, false, tm⟩ ∧ data.size ≤ 2000 := by
  obtain ⟨b1, m1, k1, hg, ⟨h0, -, -, h⟩ | ⟨rfl, rfl, hS⟩⟩ := h
  · exact absurd h.symm h0
  rcases hg with ⟨-, -, -, h0⟩ | ⟨-, h0, -⟩ | ⟨hk, -, ⟨-, -, -, h0⟩ | ⟨-, rfl, rfl, -⟩⟩
  · omega
  · exact absurd hst h0
  · omega
  · have hd : data.size ≤ 2000 := by
      obtain ⟨L, hL, -, -⟩ := setC_zero hS
      cases hL with
      | on _ _ hm => rw [mayV_iff] at hm; exact hm.2.1
      | over _ _ hm => rw [mayV_iff] at hm; exact hm.2.1
    obtain ⟨a1, a2, a3, a4⟩ := keeps_set (b := b) (b1 := { b with last := b.last + 1 }) (x := ⟨b.last + 1, data, false, tm⟩) hb hst rfl rfl rfl rfl (fun L h => h) hS
    exact ⟨a1, a2, rfl, a3, hk, a4, hd⟩
theorem wdel_keeps {b d : Bkt} {key : ByteArray} {tm : Int} {n : Nat} (hb : okQ b) (hst : b.st = 1) (h : WDel b 0 key tm d n 0) :
    d.st = 1 ∧ KeepsB b d ∧ n = b.last + 1 ∧ d.last = b.last + 1 ∧ hasO 1 60 ko key = true ∧ findV (getE d.L key) n = some ⟨n, ⟨#[]⟩, true, tm⟩ := by
  obtain ⟨b1, m1, k1, hg, ⟨h0, -, -, h⟩ | ⟨rfl, rfl, hS⟩⟩ := h
  · exact absurd h.symm h0
  rcases hg with ⟨-, -, -, h0⟩ | ⟨-, h0, -⟩ | ⟨hk, -, ⟨-, -, -, h0⟩ | ⟨-, rfl, rfl, -⟩⟩
  · omega
  · exact absurd hst h0
  · omega
  · obtain ⟨a1, a2, a3, a4⟩ := keeps_set (b := b) (b1 := { b with last := b.last + 1 }) (x := ⟨b.last + 1, ⟨#[]⟩, true, tm⟩) hb hst rfl rfl rfl rfl (fun L h => by
      rcases h with ⟨h0, -⟩ | ⟨-, h⟩
      · have : b.st = 0 := h0
        omega
      · have e : (if b.st = 2 then 0 else b.last + 1) = b.last + 1 := if_neg (by omega)
        have h' : PutC (getE b.L key) b.st (markV (if b.st = 2 then 0 else b.last + 1) tm) L 0 := h
        rw [e] at h'
        exact h') hS
    exact ⟨a1, a2, rfl, a3, hk, a4⟩
/-- What an act leaves of a bucket that is On. -/
theorem do_keeps {b d : Bkt} {a : Actn} {n t : Nat} {s : ByteArray} {k : Nat} (hb : okB b) (hst : b.st = 1) (h3 : a.kind % 9 ≠ 3) (h4 : a.kind % 9 ≠ 4) (h : FinC b (DoR b a) d n t s k) :
    okB d ∧ d.st = 1 ∧ KeepsB b d ∧ (k = 0 → a.kind % 9 < 3 → n = d.last ∧ t = 0 ∧ b.last < d.last ∧ hasO 1 60 ko a.key = true ∧ findV (getE d.L a.key) n = some ⟨n, if a.kind % 9 = 2 then ⟨#[]⟩ else a.data, decide (a.kind % 9 = 2), a.tm⟩ ∧ (a.kind % 9 ≠ 2 → a.data.size ≤ 2000)) := by
  have hd := do_ok9 hb h
  refine ⟨hd, ?_⟩
  by_cases hk : k ≠ 0
  · obtain ⟨rfl, -⟩ := fin_err h hk
    exact ⟨hst, KeepsB.refl _, fun h => absurd h hk⟩
  obtain rfl : k = 0 := by omega
  obtain ⟨-, hr, -⟩ := fin_done h
  have hq := (okB_q.1 hb).1
  have UPS : ∀ U j, (⟨b.name, b.st, b.L, U, j⟩ : Bkt) = d → b.last ≤ j → d.st = 1 ∧ KeepsB b d := fun U j e hj => by
    subst e
    exact ⟨hst, hj, fun _ _ _ h => h⟩
  rcases kind9 a.kind with h9 | h9 | h9 | h9 | h9 | h9 | h9 | h9 | h9
  · rw [doR_0 h9] at hr
    obtain ⟨a1, a2, a3, a4, a5, a6, a7⟩ := wput_keeps hq hst hr.1
    refine ⟨a1, a2, fun _ _ => ⟨by omega, hr.2.1, by omega, a5, ?_, fun _ => a7⟩⟩
    rw [h9]; exact a6
  · rw [doR_1 h9] at hr
    obtain ⟨a1, a2, a3, a4, a5, a6, a7⟩ := wput_keeps hq hst hr.1
    refine ⟨a1, a2, fun _ _ => ⟨by omega, hr.2.1, by omega, a5, ?_, fun _ => a7⟩⟩
    rw [h9]; exact a6
  · rw [doR_2 h9] at hr
    obtain ⟨a1, a2, a3, a4, a5, a6⟩ := wdel_keeps hq hst hr.1
    refine ⟨a1, a2, fun _ _ => ⟨by omega, hr.2.1, by omega, a5, ?_, fun e => absurd h9 e⟩⟩
    rw [h9]; exact a6
  · exact absurd h9 h3
  · exact absurd h9 h4
  · rw [doR_5 h9] at hr
    obtain ⟨⟨-, -, -, h⟩ | ⟨-, b1, m1, k1, hg, ⟨h0, -, -, h⟩ | ⟨rfl, rfl, U, -, rfl⟩⟩, -⟩ := hr
    · omega
    · exact absurd h.symm h0
    · rcases hg with ⟨-, -, -, h⟩ | ⟨-, rfl, rfl, -⟩
      · omega
      · obtain ⟨e1, e2⟩ := UPS U (b.last + 1) rfl (by omega)
        exact ⟨e1, e2, fun _ h => by omega⟩
  · rw [doR_6 h9] at hr
    obtain ⟨⟨U, -, rfl⟩, -⟩ := hr
    obtain ⟨e1, e2⟩ := UPS U b.last rfl (by omega)
    exact ⟨e1, e2, fun _ h => by omega⟩
  · rw [doR_7 h9] at hr
    obtain ⟨⟨U, -, rfl⟩, -⟩ := hr
    obtain ⟨e1, e2⟩ := UPS U b.last rfl (by omega)
    exact ⟨e1, e2, fun _ h => by omega⟩
  · rw [doR_8 h9] at hr
    obtain ⟨⟨u, e, hF, ⟨h0, -, -, -, h⟩ | ⟨rfl, S, T, f, -, ⟨h0, -, -, -, h⟩ | ⟨rfl, -, U, g, hA, hP⟩⟩⟩, -⟩ := hr
    · exact absurd h.symm h0
    · exact absurd h.symm h0
    · obtain rfl := abort_zero hF hA
      obtain ⟨a1, a2, -⟩ := wput_keeps (abort_ok hq hA) hst hP
      exact ⟨a1, a2, fun _ h => by omega⟩
theorem turn_on {b d : Bkt} {n t : Nat} {s : ByteArray} (h : FinC b (TurnR b 1) d n t s 0) : okB d ∧ d.st = 1 := by
  obtain ⟨hb, hr, -⟩ := fin_done h
  refine ⟨fin_ok turnR_ok hb h, ?_⟩
  rcases hr.1 with ⟨-, -, h⟩ | ⟨-, h, -⟩ | ⟨-, -, rfl, -⟩
  · omega
  · omega
  · rfl
end Go.Proofs.YtjjlbbfhmpbneaaGreat

namespace Go.Proofs.YtjjlbbfhmpbneaaGreat
set_option maxRecDepth 100000
open Go.ChangeShapes Go.WideShapes Go.ChangeAt Go.RowKit
open Go.ChangeMaps (setBlock)
set_option linter.unusedVariables false
set_option linter.unusedSimpArgs false
abbrev whT : Nat := 52
abbrev mapW : Nat := 47
theorem wh_law : WideMaps.KeyLaw Tryz.prog whT := deep_law_laid (by kernel_rfl) (m := 2) (by decide) (of_decide_eq_true (by kernel_rfl)) (by kernel_rfl) (by kernel_rfl)
theorem size_ty : ∃ m, Tryz.prog.types.size = m + 2 := ⟨Tryz.prog.types.size - 2, by
  have h : 2 ≤ Tryz.prog.types.size := of_decide_eq_true (by kernel_rfl)
  omega⟩
/-- A key and a number, as a map's key. -/
def whV (k : ByteArray) (i : Nat) : Value := .agg #[.string k, .int .u64 (i : Nat)]
theorem whV_key (k : ByteArray) (i : Nat) (hk : k.size ≤ maxLen) (hi : i < 18446744073709551616) : ∃ l, keyOf Tryz.prog whT (whV k i) = some l := by
  have hw : (Lit.int .u64 (i : Nat)).wf = true := by simp [Lit.wf, IntKind.min, IntKind.max, IntKind.signed, IntKind.bits]; omega
  have h1 : Tryz.prog.keyType whT = true := by kernel_rfl
  have h2 : Tryz.prog.cellsOf whT = 2 := by kernel_rfl
  have h3 : Tryz.prog.cellsOf 9 = 1 := by kernel_rfl
  have h4 : Tryz.prog.cellsOf 24 = 1 := by kernel_rfl
  obtain ⟨m, hm⟩ := size_ty
  unfold keyOf
  simp only [Tryz.underlying52]
  rw [if_pos (by simp [h1, whV, Value.formed, Tryz.underlying52, h2]), hm]
  unfold Program.keyLits
  simp only [Tryz.underlying52, whV, Value.cells]
  rw [if_pos ⟨by rw [h2]; rfl, by kernel_rfl⟩]
  simp [h3, h4, Program.keyLits, Tryz.underlying9, Tryz.underlying24, hk, hw]
theorem whV_ne {k k' : ByteArray} {i j : Nat} (h : i ≠ j) : whV k i ≠ whV k' j := fun e => by
  unfold whV at e
  injection e with e
  injection e with e
  injection e with e1 e2
  injection e2 with e2
  injection e2 with e3 e4
  omega
theorem run_insert_w (w : World) (b : Nat) (es : Array MapEntry) (clock : Nat) (k : ByteArray) (i : Nat) (f : Value) (hk : k.size ≤ maxLen) (hi : i < 18446744073709551616) (hb : w.heap[b]? = some (.map es clock))
    (he : ∀ e ∈ es.toList, ∃ (k' : ByteArray) (j : Nat), e.key = whV k' j ∧ k'.size ≤ maxLen ∧ j < 18446744073709551616 ∧ j ≠ i) :
    (Instr.mapUpdate mapW (.map (some b)) (whV k i) f).run Tryz.prog w = .ok () (setBlock w b (.map (es.push ⟨whV k i, f, clock⟩) (clock + 1))) := by
  obtain ⟨l, hl⟩ := whV_key k i hk hi
  have hc : ∀ em, (Instr.checkKey em 10000 whT (whV k i)).run Tryz.prog w = .ok () w := fun em => wh_law.check w em hl
  have hf : (Instr.findKey whT (whV k i) es.toList).run Tryz.prog w = .ok none w := by
    rcases wh_law.find w hl es.toList (fun e h => by obtain ⟨k', j, e1, h1, h2, -⟩ := he e h; rw [e1]; exact whV_key k' j h1 h2) with ⟨h, -⟩ | ⟨j, e, -, h2, h3⟩
    · exact h
    · obtain ⟨k', j, e1, -, -, h4⟩ := he e (List.mem_of_getElem? h2)
      rw [e1] at h3
      exact absurd h3 (whV_ne h4)
  simp [Instr.mapUpdate, run_underlying Tryz.underlying47, MapKept.run_getObj_map hb, hc, hf, MapKept.run_setObj_map _ hb, Result.andThen, setBlock]
theorem run_range_w (w : World) (b : Nat) (es : Array MapEntry) (clock : Nat) (hb : w.heap[b]? = some (.map es clock)) :
    (Instr.range mapW (.map (some b))).run Tryz.prog w = .ok (.pointer (some ⟨w.heap.size, 0, none⟩)) (w.alloc (.mapIter (some b) clock #[] clock)) := by
  simp [Instr.range, run_underlying Tryz.underlying47, MapKept.run_getObj_map hb, Result.andThen]
theorem wpList_range_w {ops : Array Oper} {rest : List Oper} {o : Oper} {a : Act} {Q : Exit → Act → World → Prop} (w : World) (hgd : o.guard = none) (m : Operand) (ho : o.op = .range mapW m)
    (b : Nat) (es : Array MapEntry) (clock : Nat) (hm : a.eval m = .map (some b)) (hb : w.heap[b]? = some (.map es clock))
    (hK : wpList Tryz.prog ops Q rest (a.put o.dst (.pointer (some ⟨w.heap.size, 0, none⟩))) (w.alloc (.mapIter (some b) clock #[] clock))) : wpList Tryz.prog ops Q (o :: rest) a w := by
  refine wpList_plain hgd fun K' hK' => ?_
  unfold Oper.wp
  simp [execOp, ho, hm, run_range_w w b es clock hb, Result.andThen]
  exact hK' _ _ hK
theorem wpList_next_w {ops : Array Oper} {rest : List Oper} {o : Oper} {a : Act} {Q : Exit → Act → World → Prop} (w : World) (hgd : o.guard = none) (it : Operand) (ho : o.op = .next it false)
    (r b since c0 : Nat) (seen : Array Nat) (es : Array MapEntry) (clock : Nat) (hit : a.eval it = .pointer (some ⟨r, 0, none⟩))
    (hr : w.heap[r]? = some (.mapIter (some b) since seen c0)) (hb : w.heap[b]? = some (.map es clock)) (hold : ∀ x ∈ es.toList, x.born < since) (hsc : since ≤ c0)
    (hDone : (leftOf es seen).size = 0 → wpList Tryz.prog ops Q rest (a.put o.dst (.tuple #[.bool false])) w)
    (hMore : ∀ e ∈ (leftOf es seen).toList, ∀ w1, (w1 = w ∨ w1 = w.drew) → wpList Tryz.prog ops Q rest (a.put o.dst (.tuple #[.bool true, e.key, e.val])) (setBlock w1 r (.mapIter (some b) since (seen.push e.born) clock))) :
    wpList Tryz.prog ops Q (o :: rest) a w := by
  refine wpList_plain hgd fun K' hK' => ?_
  unfold Oper.wp
  rcases Go.run_next_at (P := Tryz.prog) w o.type r b since c0 seen es clock hr hb hold hsc with ⟨h0, hrun⟩ | ⟨e, he, w1, hw1, hrun⟩
  · simp [execOp, ho, hit, hrun, Result.andThen]
    exact hK' _ _ (hDone h0)
  · simp [execOp, ho, hit, hrun, Result.andThen]
    exact hK' _ _ (hMore e he w1 hw1)
theorem wpList_entry_w {ops : Array Oper} {rest : List Oper} {o : Oper} {a : Act} {Q : Exit → Act → World → Prop} (w : World) (hgd : o.guard = none) (it : Operand) (ho : o.op = .entry it)
    (r b since : Nat) (seen : Array Nat) (es : Array MapEntry) (clock : Nat) (e : MapEntry) (hit : a.eval it = .pointer (some ⟨r, 0, none⟩))
    (hr : w.heap[r]? = some (.mapIter (some b) since (seen.push e.born) clock)) (hb : w.heap[b]? = some (.map es clock)) (he : e ∈ es.toList) (hn : (es.toList.map (·.born)).Nodup)
    (hK : wpList Tryz.prog ops Q rest (a.put o.dst (.tuple #[e.key, e.val])) w) : wpList Tryz.prog ops Q (o :: rest) a w := by
  refine wpList_plain hgd fun K' hK' => ?_
  unfold Oper.wp
  simp [execOp, ho, hit, Go.run_entry_at (P := Tryz.prog) w r b since seen es clock e hr hb he hn, Result.andThen]
  exact hK' _ _ hK
/-- What is laid: each entry's key is a key and a number, and its value is the version that is found by them. -/
def LaidW (b : Bkt) (es : Array MapEntry) (clock : Nat) : Prop :=
  (∀ e ∈ es.toList, e.born < clock ∧ ∃ (k : ByteArray) (x : Ver), e.key = whV k x.id ∧ e.val = ver x ∧ hasO 1 60 ko k = true ∧ x.id ≤ b.last ∧ findV (getE b.L k) x.id = some x) ∧ (es.toList.map (·.born)).Nodup
theorem laidW_nil (b : Bkt) : LaidW b #[] 0 := ⟨by simp, by simp⟩
theorem LaidW.kept {b d : Bkt} {clock : Nat} {es : Array MapEntry} (h : LaidW b es clock) (k : KeepsB b d) : LaidW d es clock := by
  refine ⟨fun e he => ?_, h.2⟩
  obtain ⟨h0, y, x, h1, h2, h3, h4, h5⟩ := h.1 e he
  exact ⟨h0, y, x, h1, h2, h3, Nat.le_trans h4 k.1, k.2 _ _ _ h5⟩
theorem LaidW.push {d : Bkt} {clock : Nat} {es : Array MapEntry} {k : ByteArray} {x : Ver} (h : LaidW d es clock) (hk : hasO 1 60 ko k = true) (hi : x.id ≤ d.last) (hf : findV (getE d.L k) x.id = some x) : LaidW d (es.push ⟨whV k x.id, ver x, clock⟩) (clock + 1) := by
  refine ⟨fun e he => ?_, ?_⟩
  · rw [Array.toList_push, List.mem_append] at he
    rcases he with he | he
    · obtain ⟨k0, k⟩ := h.1 e he
      exact ⟨by omega, k⟩
    · simp at he
      subst he
      exact ⟨by show clock < clock + 1; omega, k, x, rfl, rfl, hk, hi, hf⟩
  · rw [Array.toList_push, List.map_append, List.nodup_append]
    refine ⟨h.2, by simp, fun a ha b hb => ?_⟩
    obtain ⟨e, he, rfl⟩ := List.mem_map.1 ha
    simp at hb
    have := (h.1 e he).1
    omega
theorem key_le {k : ByteArray} (h : hasO 1 60 ko k = true) : k.size ≤ 60 := by
  simp only [hasO, Bool.and_eq_true, decide_eq_true_eq] at h
  exact h.1.2
/-- A new number is no entry's. -/
theorem LaidW.fresh {b : Bkt} {clock : Nat} {es : Array MapEntry} (h : LaidW b es clock) (hl : b.last ≤ 281474976710655) {i : Nat} (hi : b.last < i) :
    ∀ e ∈ es.toList, ∃ (k' : ByteArray) (j : Nat), e.key = whV k' j ∧ k'.size ≤ maxLen ∧ j < 18446744073709551616 ∧ j ≠ i := fun e he => by
  obtain ⟨-, y, x, h1, -, h3, h4, -⟩ := h.1 e he
  exact ⟨y, x.id, h1, by have := key_le h3; unfold maxLen; omega, by omega, by omega⟩
/-- How many entries are left to the iterator of block r. -/
def leftW (w : World) (r : Nat) (es : Array MapEntry) : Nat := match w.heap[r]? with
  | some (.mapIter _ _ seen _) => (leftOf es seen).size
  | _ => 0
theorem leftW_empty {es : Array MapEntry} {seen : Array Nat} (h : (leftOf es seen).size = 0) {e : MapEntry} (he : e ∈ (leftOf es seen).toList) : False := by
  rw [Array.eq_empty_of_size_eq_zero h] at he
  simp at he
/-- A map's block holds no cells: they stay where it is written. -/
theorem map_cells {w : World} {b : Nat} {es : Array MapEntry} {clock : Nat} (hb : w.heap[b]? = some (.map es clock)) (o : Obj) : ∀ (q : Addr) (v : Value), w.cell? q = some v → (setBlock w b o).cell? q = some v := by
  intro q v hp
  have hne : q.block ≠ b := by
    intro e
    obtain ⟨B, k, x⟩ := q
    simp only at e
    subst e
    cases x <;> simp [World.cell?, hb] at hp
  have hh : (setBlock w b o).heap[q.block]? = w.heap[q.block]? := by
    show (w.heap.setIfInBounds b o)[q.block]? = _
    rw [Array.getElem?_setIfInBounds, if_neg (fun e => hne e.symm)]
  rw [World.cell?_of_block hh]
  exact hp
theorem map_kp (w : World) (b : Nat) (o : Obj) : Kp b w (setBlock w b o) :=
  ⟨rfl, rfl, rfl, by simp [setBlock], fun k _ hn => by
    show (w.heap.setIfInBounds b o)[k]? = _
    rw [Array.getElem?_setIfInBounds, if_neg (fun e => hn (by rw [e]))]⟩
theorem iterW_q {a w w5 : World} (q : Q a w) (h : w5 = w ∨ w5 = w.drew) : Q a w5 := by
  rcases h with rfl | rfl
  · exact q
  · exact q.drew
theorem iterW_at {w w5 : World} {r : Nat} {o : Obj} (hr : w.heap[r]? = some o) (h : w5 = w ∨ w5 = w.drew) : w5.heap[r]? = some o := by
  rcases h with rfl | rfl
  · exact hr
  · exact hr
theorem iterW_set {w : World} {r : Nat} {o o' : Obj} (hr : w.heap[r]? = some o) : (setBlock w r o').heap[r]? = some o' := by
  have hlt : r < w.heap.size := lt_of_block hr
  show (w.heap.setIfInBounds r o')[r]? = _
  simp [hlt]
end Go.Proofs.YtjjlbbfhmpbneaaGreat

