/-
  A slice of acts that came in. Plain facts of BucketTurns: puts, deletes and drops at two keys may be turned. Plain facts of what is done to a bucket: it stays one that may be, and numbers rise. Acts, and what has been done, in boxes of their own. A map of one's own from numbers to whether they are in it; what lies elsewhere stays while it is written.
-/
import Derived.Test.YtjjlbbfhmpbneaaGreatHz
import Derived.Test.YtjjlbbfhmpbneaaGreatHx
import Derived.Test.YtjjlbbfhmpbneaaGreatHq
import Derived.Test.YtjjlbbfhmpbneaaGreatHg
import Derived.Test.YtjjlbbfhmpbneaaGreatHk
import Derived.Maps.Own
import Derived.Maps.OwnOps
import Derived.Maps.OwnSet
import Derived.Maps.Views
namespace Go.Proofs.YtjjlbbfhmpbneaaGreat
set_option maxRecDepth 100000
open Go.ChangeShapes Go.WideShapes Go.ChangeAt Go.RowKit
set_option linter.unusedVariables false
set_option linter.unusedSimpArgs false
theorem putI_k {l : List Ent} {key : ByteArray} {m : List Ver} {L : List Ent} {k : Nat} (h : PutI l key m L k) : (k = 0 ∧ okI l ∧ hasO 1 60 ko key = true ∧ okP m ∧ L = putE l key m ∧ (putE l key m).length ≤ 60) ∨ (k ≠ 0 ∧ L = [] ∧ (k = 1 ∨ k = 6)) := by
  rcases h with ⟨-, rfl, rfl⟩ | ⟨⟨a, b, c⟩, ⟨-, rfl, rfl⟩ | ⟨h, rfl, rfl⟩⟩
  · exact .inr ⟨by omega, rfl, .inl rfl⟩
  · exact .inr ⟨by omega, rfl, .inr rfl⟩
  · exact .inl ⟨rfl, a, b, c, rfl, h⟩
def AtAct (w : World) (B : Nat) (p : Addr) (a : Actn) : Prop :=
  w.cell? p = some (.int .u8 (a.kind : Nat)) ∧ w.cell? ⟨p.block, p.off + 1, none⟩ = some (.string a.key) ∧ w.cell? ⟨p.block, p.off + 2, none⟩ = some (.string a.data) ∧ w.cell? ⟨p.block, p.off + 3, none⟩ = some (.int .u64 (a.id : Nat)) ∧
  w.cell? ⟨p.block, p.off + 4, none⟩ = some (.int .i64 a.n) ∧ w.cell? ⟨p.block, p.off + 5, none⟩ = some (.int .i64 a.tm) ∧ ∃ u, w.cell? ⟨p.block, p.off + 6, none⟩ = some u ∧ Pces w B u a.P
def Acts (w : World) (B : Nat) (v : Value) (l : List Actn) : Prop :=
  ∃ A c, v = .slice A l.length c ∧ l.length ≤ c ∧ (A = none → c = 0) ∧ (∀ x ∈ l, okA9 x) ∧ ∀ k (h : k < l.length), ∃ a : Addr, A = some a ∧ a.block < B ∧ AtAct w B (a.add (k * 7)) l[k]
theorem AtAct.below {w w' : World} {B : Nat} {p : Addr} {e : Actn} (h : AtAct w B p e) (hp : p.block < B) (k : Below B w w') : AtAct w' B p e := by
  obtain ⟨h0, h1, h2, h3, h4, h5, u, hu, h6⟩ := h
  exact ⟨(k.cell hp).trans h0, (k.cell (p := ⟨p.block, p.off + 1, none⟩) hp).trans h1, (k.cell (p := ⟨p.block, p.off + 2, none⟩) hp).trans h2, (k.cell (p := ⟨p.block, p.off + 3, none⟩) hp).trans h3, (k.cell (p := ⟨p.block, p.off + 4, none⟩) hp).trans h4, (k.cell (p := ⟨p.block, p.off + 5, none⟩) hp).trans h5, u, (k.cell (p := ⟨p.block, p.off + 6, none⟩) hp).trans hu, h6.below k⟩
theorem AtAct.more {w : World} {B B' : Nat} {p : Addr} {e : Actn} (h : AtAct w B p e) (k : B ≤ B') : AtAct w B' p e := by
  obtain ⟨h0, h1, h2, h3, h4, h5, u, hu, h6⟩ := h
  exact ⟨h0, h1, h2, h3, h4, h5, u, hu, h6.more k⟩
theorem Acts.below {w w' : World} {B : Nat} {v : Value} {l : List Actn} (h : Acts w B v l) (k : Below B w w') : Acts w' B v l := by
  obtain ⟨A, c, e, e0, ez, eo, f⟩ := h
  refine ⟨A, c, e, e0, ez, eo, fun i hi => ?_⟩
  obtain ⟨a, e1, e2, e3⟩ := f i hi
  exact ⟨a, e1, e2, e3.below (by rw [add_block]; exact e2) k⟩
theorem Acts.more {w : World} {B B' : Nat} {v : Value} {l : List Actn} (h : Acts w B v l) (k : B ≤ B') : Acts w B' v l := by
  obtain ⟨A, c, e, e0, ez, eo, f⟩ := h
  refine ⟨A, c, e, e0, ez, eo, fun i hi => ?_⟩
  obtain ⟨a, e1, e2, e3⟩ := f i hi
  exact ⟨a, e1, by omega, e3.more k⟩
theorem Acts.on {w w' : World} {v : Value} {l : List Actn} (h : Acts w w.heap.size v l) (k : Q w w') : Acts w' w'.heap.size v l := (h.below k).more k.size
theorem Acts.nil (w : World) (B : Nat) : Acts w B (.slice none 0 0) [] := ⟨none, 0, rfl, Nat.le_refl _, fun _ => rfl, by simp, fun k h => absurd h (by simp)⟩
theorem Acts.okAll {w : World} {B : Nat} {v : Value} {l : List Actn} (h : Acts w B v l) : ∀ x ∈ l, okA9 x := by
  obtain ⟨A, c, e, e0, ez, eo, f⟩ := h; exact eo
theorem Acts.form {w : World} {B : Nat} {v : Value} {l : List Actn} (h : Acts w B v l) : ∃ A c, v = .slice A l.length c := by
  obtain ⟨A, c, e, -⟩ := h; exact ⟨A, c, e⟩
/-- One of a slice, as it lies in every later world. -/
theorem Acts.pick {w : World} {v : Value} {l : List Actn} (h : Acts w w.heap.size v l) (i : Nat) (hi : i < l.length) :
    ∃ (a : Addr) (c : Nat), v = .slice (some a) l.length c ∧ a.block < w.heap.size ∧ okA9 l[i] ∧ ∃ A2 c2, Pces w w.heap.size (.slice A2 l[i].P.length c2) l[i].P ∧
      ∀ d, Q w d → d.cell? (a.add (i * 7)) = some (.int .u8 (l[i].kind : Nat)) ∧ d.cell? ⟨(a.add (i * 7)).block, (a.add (i * 7)).off + 1, none⟩ = some (.string l[i].key) ∧ d.cell? ⟨(a.add (i * 7)).block, (a.add (i * 7)).off + 2, none⟩ = some (.string l[i].data) ∧ d.cell? ⟨(a.add (i * 7)).block, (a.add (i * 7)).off + 3, none⟩ = some (.int .u64 (l[i].id : Nat)) ∧
        d.cell? ⟨(a.add (i * 7)).block, (a.add (i * 7)).off + 4, none⟩ = some (.int .i64 l[i].n) ∧ d.cell? ⟨(a.add (i * 7)).block, (a.add (i * 7)).off + 5, none⟩ = some (.int .i64 l[i].tm) ∧ d.cell? ⟨(a.add (i * 7)).block, (a.add (i * 7)).off + 6, none⟩ = some (.slice A2 l[i].P.length c2) := by
  obtain ⟨A, c, rfl, -, -, eo, f⟩ := h
  obtain ⟨a, rfl, ha, h0, h1, h2, h3, h4, h5, u, h6, hu⟩ := f i hi
  obtain ⟨A2, c2, rfl⟩ := hu.form
  have hb : (a.add (i * 7)).block < w.heap.size := by rw [add_block]; exact ha
  exact ⟨a, c, rfl, ha, eo _ (List.getElem_mem hi), A2, c2, hu, fun d q => ⟨(q.cell hb).trans h0, (q.cell (p := ⟨(a.add (i * 7)).block, (a.add (i * 7)).off + 1, none⟩) hb).trans h1, (q.cell (p := ⟨(a.add (i * 7)).block, (a.add (i * 7)).off + 2, none⟩) hb).trans h2, (q.cell (p := ⟨(a.add (i * 7)).block, (a.add (i * 7)).off + 3, none⟩) hb).trans h3, (q.cell (p := ⟨(a.add (i * 7)).block, (a.add (i * 7)).off + 4, none⟩) hb).trans h4, (q.cell (p := ⟨(a.add (i * 7)).block, (a.add (i * 7)).off + 5, none⟩) hb).trans h5, (q.cell (p := ⟨(a.add (i * 7)).block, (a.add (i * 7)).off + 6, none⟩) hb).trans h6⟩⟩
theorem cells_act : Tryz.prog.cellsOf 29 = 7 := by kernel_rfl
theorem acts_cellE {H : Type} {enc : TypeId × Value → H} {W : World} {n : Nat} {v : Value} {y : DataW H × List MemPlace}
    (hf : DataW.trod enc Tryz.prog W 0 (fun _ => true) true n 41 [v] = some y) : ∃ l : List Actn, Acts W W.heap.size v l ∧ l.length ≤ maxLen := by
  rcases Deep.open_slice Tryz.underlying41 hf with ⟨hcs, hx⟩ | ⟨a, len', cap', m, n, D, Pl, hcs, _, hl, hm, hmm, hx, hel⟩
  · simp at hcs
    subst hcs
    exact ⟨[], Acts.nil _ _, by simp⟩
  · simp at hcs
    subst hcs
    have each : ∀ i, i < len' → ∃ x : Actn, okA9 x ∧ AtAct W W.heap.size (a.add (i * 7)) x := by
      intro i hi
      obtain ⟨cs', h1, h2⟩ := hel i (by rw [hmm]; simp; omega)
      rw [cells_act] at h1
      obtain ⟨-, hlen4, hcell⟩ := World.cells?_some h1
      obtain ⟨xs, n', _, _, hl0, hlen, hg⟩ := DataW.trod_struct Tryz.underlying29 h2
      have hlen7 : xs.length = 7 := hlen
      obtain ⟨v0, v1, v2, v3, v4, v5, v6, rfl⟩ : ∃ a b c d e f g, cs' = [a, b, c, d, e, f, g] := by
        match cs', hlen4 with
        | [a, b, c, d, e, f, g], _ => exact ⟨a, b, c, d, e, f, g, rfl⟩
      have c0 : Tryz.prog.cellsOf 9 = 1 := by kernel_rfl
      have c1 : Tryz.prog.cellsOf 3 = 1 := by kernel_rfl
      have c2 : Tryz.prog.cellsOf 5 = 1 := by kernel_rfl
      have c3 : Tryz.prog.cellsOf 27 = 1 := by kernel_rfl
      have c4 : Tryz.prog.cellsOf 24 = 1 := by kernel_rfl
      have g0 := hg 0 _ rfl
      have g1 := hg 1 _ rfl
      have g2 := hg 2 _ rfl
      have g3 := hg 3 _ rfl
      have g4 := hg 4 _ rfl
      have g5 := hg 5 _ rfl
      have g6 := hg 6 _ rfl
      rw [List.getElem?_eq_getElem (by omega)] at g0 g1 g2 g3 g4 g5 g6
      simp [Value.cells, c0, c1, c2, c3, c4] at g0 g1 g2 g3 g4 g5 g6
      obtain ⟨s0, e0, -, w0⟩ := DataW.trod_int Tryz.underlying5 g0
      obtain ⟨s1, e1, -, w1⟩ := DataW.trod_string Tryz.underlying9 g1
      obtain ⟨s2, e2, -, w2⟩ := DataW.trod_string Tryz.underlying9 g2
      obtain ⟨s3, e3, -, w3⟩ := DataW.trod_int Tryz.underlying24 g3
      obtain ⟨s4, e4, -, w4⟩ := DataW.trod_int Tryz.underlying3 g4
      obtain ⟨s5, e5, -, w5⟩ := DataW.trod_int Tryz.underlying3 g5
      simp at e0 e1 e2 e3 e4 e5
      subst e0 e1 e2 e3 e4 e5
      obtain ⟨i', rfl, hi'⟩ := wfu64 w3
      obtain ⟨k', rfl, hk'⟩ : ∃ n : Nat, s0 = n ∧ n < 256 := by
        have h2 : 0 ≤ s0 ∧ s0 ≤ 255 := by simpa [Lit.wf, IntKind.min, IntKind.max, IntKind.signed, IntKind.bits] using w0
        exact ⟨s0.toNat, by omega, by omega⟩
      obtain ⟨P, hP, mP⟩ := pce_cellE g6
      have at1 : ∀ j (h0 : 0 < j) (h7 : j < 7), W.cell? ⟨(a.add (i * 7)).block, (a.add (i * 7)).off + j, none⟩ = _ := fun j h0 h7 => (congrArg W.cell? (add_pos _ h0).symm).trans (hcell j h7)
      exact ⟨⟨k', s1, s2, i', s4, s5, P⟩, ⟨hk', w1, w2, hi', wf64 w4, wf64 w5, mP⟩, hcell 0 (by omega), at1 1 (by omega) (by omega), at1 2 (by omega) (by omega), at1 3 (by omega) (by omega), at1 4 (by omega) (by omega), at1 5 (by omega) (by omega), v6, at1 6 (by omega) (by omega), hP⟩
    obtain ⟨l, hlen, hp⟩ := list_of len' each
    refine ⟨l, ⟨some a, cap', by rw [hlen], by omega, (by simp), ?_, fun k hk => ⟨a, rfl, ?_, (hp k hk).2⟩⟩, by omega⟩
    · intro x hx
      obtain ⟨k, hk, rfl⟩ := List.getElem_of_mem hx
      exact (hp k hk).1
    · have := World.block_lt_of_cell? W _ (hp k hk).2.1
      rw [add_block] at this; exact this
theorem open_acts {H : Type} {enc : TypeId × Value → H} {W : World} {b : Nat} {v : Value} {d : DataW H} {p : List MemPlace} (hv : Value.okWide Tryz.prog W .any b 41 v)
    (h : DataW.Trod enc Tryz.prog W 0 (fun _ => true) true 41 v d p) : ∃ l : List Actn, Acts W W.heap.size v l ∧ l.length ≤ maxLen := by
  obtain ⟨a0, len, cap, rfl⟩ := okWide_slice Tryz.underlying41 hv
  obtain ⟨fuel, hf⟩ := h
  exact acts_cellE (by simpa [Value.cells] using hf)
end Go.Proofs.YtjjlbbfhmpbneaaGreat

namespace Go.Proofs.YtjjlbbfhmpbneaaGreat
set_option maxRecDepth 100000
open Go.ChangeShapes Go.WideShapes Go.ChangeAt Go.RowKit
set_option linter.unusedVariables false
set_option linter.unusedSimpArgs false
theorem setC_zero {b d : Bkt} {key : ByteArray} {M : List Ver → Nat → Prop} (h : SetC b key M d 0) : ∃ L, M L 0 ∧ okP L ∧ d = { b with L := putE b.L key L } := by
  obtain ⟨l, e, hM, ⟨h0, -, rfl⟩ | ⟨rfl, L, j, hP, rfl, rfl⟩⟩ := h
  · exact absurd rfl h0
  · rcases putI_k hP with ⟨-, -, -, hp, rfl, -⟩ | ⟨h, -⟩
    · exact ⟨l, hM, hp, rfl⟩
    · exact absurd rfl h
end Go.Proofs.YtjjlbbfhmpbneaaGreat

namespace Go.Proofs.YtjjlbbfhmpbneaaGreat
set_option maxRecDepth 100000
open Go.ChangeShapes Go.WideShapes Go.ChangeAt Go.RowKit
set_option linter.unusedVariables false
set_option linter.unusedSimpArgs false
theorem kind9 (n : Nat) : n % 9 = 0 ∨ n % 9 = 1 ∨ n % 9 = 2 ∨ n % 9 = 3 ∨ n % 9 = 4 ∨ n % 9 = 5 ∨ n % 9 = 6 ∨ n % 9 = 7 ∨ n % 9 = 8 := by omega
theorem do_ex9 (b : Bkt) (a : Actn) : ∃ d n t s k, FinC b (DoR b a) d n t s k := by
  refine finC_ex b ?_
  rcases kind9 a.kind with h9 | h9 | h9 | h9 | h9 | h9 | h9 | h9 | h9
  · rw [doR_0 h9]; obtain ⟨d, m, k, h⟩ := wput_ex b 0 a.key a.data a.tm; exact ⟨d, m, 0, noS, k, h, rfl, rfl⟩
  · rw [doR_1 h9]; obtain ⟨d, m, k, h⟩ := wput_ex b 0 a.key a.data a.tm; exact ⟨d, m, 0, noS, k, h, rfl, rfl⟩
  · rw [doR_2 h9]; obtain ⟨d, m, k, h⟩ := wdel_ex b 0 a.key a.tm; exact ⟨d, m, 0, noS, k, h, rfl, rfl⟩
  · rw [doR_3 h9]; obtain ⟨d, k, h⟩ := wdrop_ex b a.key a.id; exact ⟨d, 0, 0, noS, k, h, rfl, rfl, rfl⟩
  · rw [doR_4 h9]; obtain ⟨d, k, h⟩ := wturn_ex b a.n; exact ⟨d, 0, 0, noS, k, h, rfl, rfl, rfl⟩
  · rw [doR_5 h9]; obtain ⟨d, m, k, h⟩ := wbeg_ex b 0 a.key; exact ⟨d, m, 0, noS, k, h, rfl, rfl⟩
  · rw [doR_6 h9]; obtain ⟨d, t, k, h⟩ := wlay_ex b a.id ⟨a.n, a.data⟩; exact ⟨d, 0, t, noS, k, h, rfl, rfl⟩
  · rw [doR_7 h9]; obtain ⟨d, k, h⟩ := wabo_ex b a.id; exact ⟨d, 0, 0, noS, k, h, rfl, rfl, rfl⟩
  · rw [doR_8 h9]; obtain ⟨d, m, s, k, h⟩ := wwho_ex b 0 a.id a.P a.tm; exact ⟨d, m, 0, s, k, h, rfl⟩
theorem do_ok9 {b d : Bkt} {a : Actn} {n t : Nat} {s : ByteArray} {k : Nat} (hb : okB b) (h : FinC b (DoR b a) d n t s k) : okB d := by
  rcases kind9 a.kind with h9 | h9 | h9 | h9 | h9 | h9 | h9 | h9 | h9
  · rw [doR_0 h9] at h; exact fin_ok putR_ok hb h
  · rw [doR_1 h9] at h; exact fin_ok putR_ok hb h
  · rw [doR_2 h9] at h; exact fin_ok delR_ok hb h
  · rw [doR_3 h9] at h; exact fin_ok dropR_ok hb h
  · rw [doR_4 h9] at h; exact fin_ok turnR_ok hb h
  · rw [doR_5 h9] at h; exact fin_ok begR_ok hb h
  · rw [doR_6 h9] at h; exact fin_ok layR_ok hb h
  · rw [doR_7 h9] at h; exact fin_ok aboR_ok hb h
  · rw [doR_8 h9] at h; exact fin_ok whoR_ok hb h
/-- What is refused leaves the bucket, and gives nothing. -/
theorem fin_err {b d : Bkt} {R : Bkt → Nat → Nat → ByteArray → Nat → Prop} {n t : Nat} {s : ByteArray} {k : Nat} (h : FinC b R d n t s k) (hk : k ≠ 0) : d = b ∧ n = 0 ∧ t = 0 ∧ s = noS := by
  rcases h with ⟨-, h, -⟩ | ⟨-, d1, n1, t1, s1, k1, hr, ⟨-, h, -⟩ | ⟨-, -, h, -⟩ | ⟨-, -, -, h⟩⟩
  · exact h
  · exact h
  · exact h
  · exact absurd h hk
theorem fin_done {b d : Bkt} {R : Bkt → Nat → Nat → ByteArray → Nat → Prop} {n t : Nat} {s : ByteArray} (h : FinC b R d n t s 0) : okB b ∧ R d n t s 0 ∧ octB d ≤ 20000 := by
  rcases h with ⟨-, -, h⟩ | ⟨hb, d1, n1, t1, s1, k1, hr, ⟨h0, -, h⟩ | ⟨-, -, -, h⟩ | ⟨rfl, ho, ⟨rfl, rfl, rfl, rfl⟩, -⟩⟩
  · omega
  · exact absurd h.symm h0
  · omega
  · exact ⟨hb, hr, ho⟩
theorem givC_num {b d : Bkt} {n m : Nat} {key : ByteArray} (h : GivC b n key d m 0) : d.st = b.st ∧ ((b.st ≠ 1 ∧ d.last = b.last ∧ m = n) ∨ (b.st = 1 ∧ d.last = b.last + 1 ∧ m = b.last + 1)) := by
  rcases h with ⟨-, -, -, h⟩ | ⟨h, h1, rfl, rfl, -⟩ | ⟨h, h1, h2⟩
  · omega
  · exact ⟨rfl, .inl ⟨h1, rfl, rfl⟩⟩
  · rcases h2 with ⟨-, -, -, h2⟩ | ⟨-, rfl, rfl, -⟩
    · omega
    · exact ⟨rfl, .inr ⟨h1, rfl, rfl⟩⟩
theorem wput_num {b d : Bkt} {key data : ByteArray} {tm : Int} {n : Nat} (h : WPut b 0 key data tm d n 0) : d.st = b.st ∧ ((b.st ≠ 1 ∧ d.last = b.last ∧ n = 0) ∨ (b.st = 1 ∧ d.last = b.last + 1 ∧ n = d.last)) := by
  obtain ⟨b1, m1, k1, hg, ⟨h0, -, -, h⟩ | ⟨rfl, rfl, hS⟩⟩ := h
  · exact absurd h.symm h0
  · obtain ⟨L, -, -, rfl⟩ := setC_zero hS
    obtain ⟨h1, ⟨h2, h3, h4⟩ | ⟨h2, h3, h4⟩⟩ := givC_num hg
    · exact ⟨h1, .inl ⟨h2, h3, h4⟩⟩
    · exact ⟨h1, .inr ⟨h2, h3, h4.trans h3.symm⟩⟩
theorem wdel_num {b d : Bkt} {key : ByteArray} {tm : Int} {n : Nat} (h : WDel b 0 key tm d n 0) : d.st = b.st ∧ ((b.st ≠ 1 ∧ d.last = b.last ∧ n = 0) ∨ (b.st = 1 ∧ d.last = b.last + 1 ∧ n = d.last)) := by
  obtain ⟨b1, m1, k1, hg, ⟨h0, -, -, h⟩ | ⟨rfl, rfl, hS⟩⟩ := h
  · exact absurd h.symm h0
  · obtain ⟨L, -, -, rfl⟩ := setC_zero hS
    obtain ⟨h1, ⟨h2, h3, h4⟩ | ⟨h2, h3, h4⟩⟩ := givC_num hg
    · exact ⟨h1, .inl ⟨h2, h3, h4⟩⟩
    · exact ⟨h1, .inr ⟨h2, h3, h4.trans h3.symm⟩⟩
/-- What is given is the last number, and greater than what was the last. -/
theorem do_num {b d : Bkt} {a : Actn} {n t : Nat} {s : ByteArray} (h : FinC b (DoR b a) d n t s 0) : b.last ≤ d.last ∧ (a.kind % 9 ≠ 6 → t = 0 ∧ (n = 0 ∨ (n = d.last ∧ b.last < d.last))) := by
  obtain ⟨hb, hr, -⟩ := fin_done h
  have PUT : WPut b 0 a.key a.data a.tm d n 0 ∧ t = 0 → b.last ≤ d.last ∧ (a.kind % 9 ≠ 6 → t = 0 ∧ (n = 0 ∨ (n = d.last ∧ b.last < d.last))) := fun ⟨h, ht⟩ => by
    obtain ⟨-, ⟨-, h2, h3⟩ | ⟨-, h2, h3⟩⟩ := wput_num h
    · exact ⟨by omega, fun _ => ⟨ht, .inl h3⟩⟩
    · exact ⟨by omega, fun _ => ⟨ht, .inr ⟨h3, by omega⟩⟩⟩
  rcases kind9 a.kind with h9 | h9 | h9 | h9 | h9 | h9 | h9 | h9 | h9
  · rw [doR_0 h9] at hr; exact PUT ⟨hr.1, hr.2.1⟩
  · rw [doR_1 h9] at hr; exact PUT ⟨hr.1, hr.2.1⟩
  · rw [doR_2 h9] at hr
    obtain ⟨-, ⟨-, h2, h3⟩ | ⟨-, h2, h3⟩⟩ := wdel_num hr.1
    · exact ⟨by omega, fun _ => ⟨hr.2.1, .inl h3⟩⟩
    · exact ⟨by omega, fun _ => ⟨hr.2.1, .inr ⟨h3, by omega⟩⟩⟩
  · rw [doR_3 h9] at hr
    obtain ⟨⟨-, -, h⟩ | ⟨-, hS⟩, hn, ht, -⟩ := hr
    · omega
    · obtain ⟨L, -, -, rfl⟩ := setC_zero hS
      exact ⟨Nat.le_refl _, fun _ => ⟨ht, .inl hn⟩⟩
  · rw [doR_4 h9] at hr
    obtain ⟨⟨-, -, h⟩ | ⟨-, -, -, -, h⟩ | ⟨-, -, rfl, -⟩, hn, ht, -⟩ := hr
    · omega
    · omega
    · exact ⟨Nat.le_refl _, fun _ => ⟨ht, .inl hn⟩⟩
  · rw [doR_5 h9] at hr
    obtain ⟨⟨-, -, -, h⟩ | ⟨-, b1, m1, k1, hg, ⟨h0, -, -, h⟩ | ⟨rfl, rfl, U, -, rfl⟩⟩, ht, -⟩ := hr
    · omega
    · exact absurd h.symm h0
    · rcases hg with ⟨-, -, -, h⟩ | ⟨-, rfl, rfl, -⟩
      · omega
      · exact ⟨Nat.le_succ _, fun _ => ⟨ht, .inr ⟨rfl, Nat.lt_succ_self _⟩⟩⟩
  · rw [doR_6 h9] at hr
    obtain ⟨⟨U, -, rfl⟩, -, -⟩ := hr
    exact ⟨Nat.le_refl _, fun h => absurd h9 h⟩
  · rw [doR_7 h9] at hr
    obtain ⟨⟨U, -, rfl⟩, hn, ht, -⟩ := hr
    exact ⟨Nat.le_refl _, fun _ => ⟨ht, .inl hn⟩⟩
  · rw [doR_8 h9] at hr
    obtain ⟨⟨u, e, -, ⟨h0, -, -, -, h⟩ | ⟨rfl, S, T, f, -, ⟨h0, -, -, -, h⟩ | ⟨rfl, -, U, g, -, hP⟩⟩⟩, ht⟩ := hr
    · exact absurd h.symm h0
    · exact absurd h.symm h0
    · obtain ⟨-, ⟨-, h2, h3⟩ | ⟨-, h2, h3⟩⟩ := wput_num hP
      · have h2' : d.last = b.last := h2
        exact ⟨by omega, fun _ => ⟨ht, .inl h3⟩⟩
      · have h2' : d.last = b.last + 1 := h2
        exact ⟨by omega, fun _ => ⟨ht, .inr ⟨h3, by omega⟩⟩⟩
theorem do_last {b d : Bkt} {a : Actn} {n t : Nat} {s : ByteArray} {k : Nat} (h : FinC b (DoR b a) d n t s k) : b.last ≤ d.last := by
  by_cases hk : k = 0
  · subst hk; exact (do_num h).1
  · rw [(fin_err h hk).1]; exact Nat.le_refl _
end Go.Proofs.YtjjlbbfhmpbneaaGreat

namespace Go.Proofs.YtjjlbbfhmpbneaaGreat
set_option maxRecDepth 100000
open Go.ChangeShapes Go.WideShapes Go.ChangeAt Go.RowKit Go.Shelf
set_option linter.unusedVariables false
set_option linter.unusedSimpArgs false
/-- An act lies in a box. -/
def BoxA (w : World) (P : Nat) (a : Actn) : Prop := ∃ A c, Bx w P 29 (acl a (.slice A a.P.length c)) ∧ Pces w w.heap.size (.slice A a.P.length c) a.P
theorem BoxA.on {w w' : World} {P : Nat} {a : Actn} (h : BoxA w P a) (q : Q w w') : BoxA w' P a := by
  obtain ⟨A, c, h, k⟩ := h
  exact ⟨A, c, h.on q, k.on q⟩
theorem BoxA.lt {w : World} {P : Nat} {a : Actn} (h : BoxA w P a) : P < w.heap.size := by
  obtain ⟨A, c, h, k⟩ := h
  exact h.lt
theorem BoxA.new {w : World} {d : Actn} {A : Option Addr} {c : Nat} (k : Pces w w.heap.size (.slice A d.P.length c) d.P) :
    BoxA (w.alloc (.cells (acl d (.slice A d.P.length c)) 29)) w.heap.size d :=
  ⟨A, c, Bx.new _ _ _, k.on ((Q.refl w).alloc _)⟩
/-- What has been done lies in a box. -/
def BoxD (w : World) (P : Nat) (d : Bkt) (i : Nat) (s : ByteArray) (k : Nat) : Prop := ∃ A c A' c', Bx w P 34 (didC d (.slice A d.L.length c) (.slice A' d.U.length c') i s k) ∧ BktV w d (.slice A d.L.length c) (.slice A' d.U.length c')
theorem BoxD.on {w w' : World} {P : Nat} {d : Bkt} {i : Nat} {s : ByteArray} {k : Nat} (h : BoxD w P d i s k) (q : Q w w') : BoxD w' P d i s k := by
  obtain ⟨A, c, A', c', h, k⟩ := h
  exact ⟨A, c, A', c', h.on q, k.on q⟩
theorem BoxD.kp {w w' : World} {P p : Nat} {d : Bkt} {i : Nat} {s : ByteArray} {k : Nat} (h : BoxD w P d i s k) (c : Calm w p) (g : Kp p w w') (hn : P ≠ p) : BoxD w' P d i s k := by
  obtain ⟨A, c1, A', c', h, k⟩ := h
  exact ⟨A, c1, A', c', g.bx h hn, k.kp c g⟩
end Go.Proofs.YtjjlbbfhmpbneaaGreat

namespace Go.Proofs.YtjjlbbfhmpbneaaGreat
set_option maxRecDepth 100000
open Go.ChangeShapes Go.WideShapes Go.ChangeAt Go.RowKit
open Go.Maps (Keyed)
set_option linter.unusedVariables false
set_option linter.unusedSimpArgs false
theorem keyedU : Keyed Tryz.prog 24 := Maps.int_keyed Tryz.underlying24
theorem wfU {k : Nat} (h : k < 18446744073709551616) : (Lit.int .u64 (k : Nat)).wf = true := by
  simp [Lit.wf, IntKind.min, IntKind.max, IntKind.signed, IntKind.bits]; omega
/-- Block b is a map in which no number above m is. -/
def InU (b n m : Nat) (w : World) : Prop :=
  ∃ D : DataW Unit, w.ownsMap Tryz.prog 24 (plainElem Tryz.prog 4) b n D ∧ ∀ k : Nat, m < k → D.atKey (.int .u64 (k : Nat)) (.lit (.bool false)) = .lit (.bool false)
theorem Q.grownU {w w' : World} (q : Q w w') : w.grownBy w' none := ⟨q.os, q.tape, q.output, q.size, fun i hi _ => q.block i hi⟩
theorem InU.made (w : World) : InU w.heap.size 0 0 (w.alloc (.map #[] 0)) := ⟨_, World.ownsMap_made w _ _ _, fun k _ => rfl⟩
theorem InU.lt {b n m : Nat} {w : World} (h : InU b n m w) : b < w.heap.size := by
  obtain ⟨D, h1, h2⟩ := h
  exact h1.lt
theorem InU.on {b n m : Nat} {w w' : World} (h : InU b n m w) (q : Q w w') : InU b n m w' := by
  obtain ⟨D, h1, h2⟩ := h
  exact ⟨D, h1.kept (Q.grownU q) (by simp), h2⟩
theorem InU.kp {b n m p : Nat} {w w' : World} (h : InU b n m w) (g : Kp p w w') (hn : b ≠ p) : InU b n m w' := by
  obtain ⟨D, h1, h2⟩ := h
  exact ⟨D, h1.kept g (by simpa using hn), h2⟩
theorem InU.more {b n n' m m' : Nat} {w : World} (h : InU b n m w) (k : n ≤ n') (k' : m ≤ m') : InU b n' m' w := by
  obtain ⟨D, h1, h2⟩ := h
  exact ⟨D, h1.mono k, fun k hk => h2 k (by omega)⟩
theorem InU.get {b n m k : Nat} {w : World} (h : InU b n m w) (hk : m < k) (hz : k < 18446744073709551616) : (Instr.lookup 44 (.map (some b)) (.int .u64 (k : Nat)) false).run Tryz.prog w = .ok (.bool false) w := by
  obtain ⟨D, h1, h2⟩ := h
  obtain ⟨v, ps, hrun, hv⟩ := h1.lookup keyedU Tryz.underlying44 (z := .bool false) (by rfl) (plainElem_bool Tryz.underlying4 false) (Maps.keyOf_int_mk Tryz.underlying24 (wfU hz))
  rw [h2 k hk] at hv
  have : v = .bool false := by
    unfold plainElem at hv
    rw [Tryz.underlying4] at hv
    cases v <;> simp at hv
    rw [hv.1]
  rw [hrun, this]
theorem InU.put {b n m k : Nat} {w : World} (h : InU b n m w) (hn : n ≤ 1000000) (hk : k ≤ m) (hz : k < 18446744073709551616) :
    ∃ w', (Instr.mapUpdate 44 (.map (some b)) (.int .u64 (k : Nat)) (.bool true)).run Tryz.prog w = .ok () w' ∧ InU b (n + 1) m w' ∧ Kp b w w' := by
  obtain ⟨D, h1, h2⟩ := h
  obtain ⟨w', hrun, o', g⟩ := h1.update keyedU Tryz.underlying44 (by unfold maxLen; omega) (Maps.keyOf_int_mk Tryz.underlying24 (wfU hz)) (plainElem_bool Tryz.underlying4 true)
  refine ⟨w', hrun, ⟨_, o', fun j hj => ?_⟩, g⟩
  rw [Maps.atKey_put_other (by intro e; injection e with _ e; omega)]
  exact h2 j hj
/-- 'given[k] = true' at the operation. -/
theorem wpList_inU_put {w : World} {ops : Array Oper} {rest : List Oper} {o : Oper} {a : Act} {Z : Exit → Act → World → Prop} {b n m k : Nat}
    (h : InU b n m w) (hg : o.guard = none) (x y v : Operand) (hop : o.op = Op.mapUpdate 44 x y v) (hn : n ≤ 1000000) (hk : k ≤ m) (hz : k < 18446744073709551616)
    (hm : a.eval x = .map (some b)) (hy : a.eval y = .int .u64 (k : Nat)) (hv : a.eval v = .bool true)
    (hK : ∀ w', InU b (n + 1) m w' → Kp b w w' → wpList Tryz.prog ops Z rest (a.put o.dst undef) w') :
    wpList Tryz.prog ops Z (o :: rest) a w := by
  obtain ⟨w', hrun, h1, g⟩ := h.put hn hk hz
  refine wpList_plain hg fun K' hK' => ?_
  unfold Oper.wp
  simp [execOp, hop, hm, hy, hv, hrun, Result.andThen]
  exact hK' _ _ (hK w' h1 g)
theorem wpList_inU_ins {w : World} {ops : Array Oper} {rest : List Oper} {o : Oper} {a : Act} {Z : Exit → Act → World → Prop} {b n m k : Nat}
    (h : InU b n m w) (hg : o.guard = none) (x y v : Operand) (hop : o.op = Op.insert 44 x y v) (hn : n ≤ 1000000) (hk : k ≤ m) (hz : k < 18446744073709551616)
    (hm : a.eval x = .map (some b)) (hy : a.eval y = .int .u64 (k : Nat)) (hv : a.eval v = .bool true)
    (hK : ∀ w', InU b (n + 1) m w' → Kp b w w' → wpList Tryz.prog ops Z rest (a.put o.dst undef) w') :
    wpList Tryz.prog ops Z (o :: rest) a w := by
  obtain ⟨w', hrun, h1, g⟩ := h.put hn hk hz
  refine wpList_plain hg fun K' hK' => ?_
  unfold Oper.wp
  simp [execOp, hop, hm, hy, hv, hrun, Result.andThen]
  exact hK' _ _ (hK w' h1 g)
/-- No cell lies in the map's block. -/
theorem InU.cells {b n m : Nat} {w w' : World} (h : InU b n m w) (g : Kp b w w') : ∀ (p : Addr) (v : Value), w.cell? p = some v → w'.cell? p = some v := by
  obtain ⟨D, ⟨es, clock, hb, -⟩, -⟩ := h
  intro p v hp
  have hne : p.block ≠ b := by
    intro e
    obtain ⟨B, o, x⟩ := p
    simp only at e
    subst e
    cases x <;> simp [World.cell?, hb] at hp
  have hlt : p.block < w.heap.size := by
    obtain ⟨B, o, x⟩ := p
    cases hB : w.heap[B]? with
    | none => cases x <;> simp [World.cell?, hB] at hp
    | some y => exact (Array.getElem?_eq_some_iff.1 hB).1
  rw [World.cell?_of_block (g.block p.block hlt (by simpa using hne))]
  exact hp
section
variable {w w' : World} (k : ∀ (p : Addr) (v : Value), w.cell? p = some v → w'.cell? p = some v)
include k
theorem Vers.sameU {B : Nat} {v : Value} {l : List Ver} (h : Vers w B v l) : Vers w' B v l := by
  obtain ⟨A, c, e, e0, ez, eo, f⟩ := h
  refine ⟨A, c, e, e0, ez, eo, fun i hi => ?_⟩
  obtain ⟨a, e1, e2, h0, h1, h2, h3⟩ := f i hi
  exact ⟨a, e1, e2, k _ _ h0, k _ _ h1, k _ _ h2, k _ _ h3⟩
theorem Ents.sameU {B : Nat} {v : Value} {l : List Ent} (h : Ents w B v l) : Ents w' B v l := by
  obtain ⟨A, c, e, e0, ez, eo, f⟩ := h
  refine ⟨A, c, e, e0, ez, eo, fun i hi => ?_⟩
  obtain ⟨a, e1, e2, h1, u, h2, h3⟩ := f i hi
  exact ⟨a, e1, e2, k _ _ h1, u, k _ _ h2, Vers.sameU k h3⟩
theorem Prts.sameU {B : Nat} {v : Value} {l : List Prt} (h : Prts w B v l) : Prts w' B v l := by
  obtain ⟨A, c, e, e0, ez, eo, f⟩ := h
  refine ⟨A, c, e, e0, ez, eo, fun i hi => ?_⟩
  obtain ⟨a, e1, e2, e3⟩ := f i hi
  exact ⟨a, e1, e2, k _ _ e3.1, k _ _ e3.2⟩
theorem Upls.sameU {B : Nat} {v : Value} {l : List Upl} (h : Upls w B v l) : Upls w' B v l := by
  obtain ⟨A, c, e, e0, ez, eo, f⟩ := h
  refine ⟨A, c, e, e0, ez, eo, fun i hi => ?_⟩
  obtain ⟨a, e1, e2, h0, h1, u, h2, h3⟩ := f i hi
  exact ⟨a, e1, e2, k _ _ h0, k _ _ h1, u, k _ _ h2, Prts.sameU k h3⟩
end
theorem BktV.map {w w' : World} {b : Bkt} {lv uv : Value} {q n m : Nat} (h : BktV w b lv uv) (i : InU q n m w) (g : Kp q w w') : BktV w' b lv uv :=
  ⟨(Ents.sameU (i.cells g) h.1).more g.size, (Upls.sameU (i.cells g) h.2).more g.size⟩
theorem BoxB.map {w w' : World} {b : Bkt} {P q n m : Nat} (h : BoxB w P b) (i : InU q n m w) (g : Kp q w w') (hn : P ≠ q) : BoxB w' P b := by
  obtain ⟨A, c, A', c', h, k⟩ := h
  exact ⟨A, c, A', c', g.bx h hn, k.map i g⟩
theorem BoxD.map {w w' : World} {d : Bkt} {P q n m i k : Nat} {s : ByteArray} (h : BoxD w P d i s k) (j : InU q n m w) (g : Kp q w w') (hn : P ≠ q) : BoxD w' P d i s k := by
  obtain ⟨A, c, A', c', h, k⟩ := h
  exact ⟨A, c, A', c', g.bx h hn, k.map j g⟩
end Go.Proofs.YtjjlbbfhmpbneaaGreat

