/-
  Items by their names: the plain facts on what rises, what is laid in it, and what is told of changes. Parts and pieces: as values, as cells, as slices that are read, as rows that a call makes. Small words of stage 1 over Core: the statements' Few of a text, and orders of texts. Contracts of name's Bucket, Key, Prefix, Delim and of what they call. Contracts of the document's own answers: keys, Bucket, Key, Prefix, Delim, Under. Uploads: as values, as cells, as slices that are read, as rows that a call makes. What a part, an ID, a key may be: contracts of mayLay, mayBegin, and of the document's part, number.
-/
import Derived.Test.YtbilnomafloopaaGreatNa
import Derived.Lib.AppendZerosOnto
import Derived.Lib.SliceRun
import Derived.Laws.AppendOwnNone
namespace Go.Proofs.YtbilnomafloopaaGreat
set_option maxRecDepth 100000
set_option linter.unusedVariables false
set_option linter.unusedSimpArgs false
/-- What rises by a name: each name is less than all behind it. -/
def Asc {α : Type} (f : α → ByteArray) (l : List α) : Prop := l.Pairwise fun x y => ltBZ (f x) (f y) = true
theorem Asc.nil {α : Type} {f : α → ByteArray} : Asc f [] := List.Pairwise.nil
theorem Asc.filter {α : Type} {f : α → ByteArray} {l : List α} (h : Asc f l) (p : α → Bool) : Asc f (l.filter p) := List.Pairwise.filter p h
/-- Two of one name are one. -/
theorem Asc.one {α : Type} {f : α → ByteArray} {l : List α} (h : Asc f l) {x y : α} (hx : x ∈ l) (hy : y ∈ l) (e : f x = f y) : x = y := by
  induction l with
  | nil => cases hx
  | cons z r ih =>
    obtain ⟨h1, h2⟩ := List.pairwise_cons.1 h
    rcases List.mem_cons.1 hx with ex | kx
    · rcases List.mem_cons.1 hy with ey | ky
      · rw [ex, ey]
      · exact absurd (ex ▸ e) (ltB_neZ (h1 _ ky))
    · rcases List.mem_cons.1 hy with ey | ky
      · exact absurd (ey ▸ e.symm) (ltB_neZ (h1 _ kx))
      · exact ih h2 kx ky
/-- What rises, and has the same in it, is the same. -/
theorem Asc.same {α : Type} {f : α → ByteArray} : ∀ {l m : List α}, Asc f l → Asc f m → (∀ x, x ∈ l ↔ x ∈ m) → l = m := by
  intro l
  induction l with
  | nil => intro m _ _ h; cases m with
    | nil => rfl
    | cons y r => exact absurd ((h y).2 (by simp)) (by simp)
  | cons x l ih =>
    intro m hl hm h
    cases m with
    | nil => exact absurd ((h x).1 (by simp)) (by simp)
    | cons y m =>
      obtain ⟨l1, l2⟩ := List.pairwise_cons.1 hl
      obtain ⟨m1, m2⟩ := List.pairwise_cons.1 hm
      have e : x = y := by
        rcases List.mem_cons.1 ((h x).1 (by simp)) with e | hx
        · exact e
        · rcases List.mem_cons.1 ((h y).2 (by simp)) with e | hy
          · exact e.symm
          · have a := l1 _ hy; have b := m1 _ hx; rw [ltB_asymmZ a] at b; cases b
      subst e
      rw [ih l2 m2 fun z => ⟨fun hz => ?_, fun hz => ?_⟩]
      · rcases List.mem_cons.1 ((h z).1 (List.mem_cons_of_mem _ hz)) with e | k
        · subst e; exact absurd rfl (ltB_neZ (l1 _ hz))
        · exact k
      · rcases List.mem_cons.1 ((h z).2 (List.mem_cons_of_mem _ hz)) with e | k
        · subst e; exact absurd rfl (ltB_neZ (m1 _ hz))
        · exact k
/-- Laid among what rises, in place of another one of its name. -/
def inG {α : Type} (f : α → ByteArray) (l : List α) (x : α) : List α := l.filter (fun y => ltBZ (f y) (f x)) ++ x :: l.filter (fun y => ltBZ (f x) (f y))
theorem inG_mem {α : Type} {f : α → ByteArray} {l : List α} {x y : α} : y ∈ inG f l x ↔ y = x ∨ (y ∈ l ∧ f y ≠ f x) := by
  unfold inG
  simp only [List.mem_append, List.mem_cons, List.mem_filter]
  constructor
  · rintro (⟨h, k⟩ | h | ⟨h, k⟩)
    · exact .inr ⟨h, ltB_neZ k⟩
    · exact .inl h
    · exact .inr ⟨h, fun e => ltB_neZ k e.symm⟩
  · rintro (h | ⟨h, k⟩)
    · exact .inr (.inl h)
    · cases e : ltBZ (f y) (f x) with
      | true => exact .inl ⟨h, rfl⟩
      | false => exact .inr (.inr ⟨h, ltB_totalZ k e⟩)
theorem inG_asc {α : Type} {f : α → ByteArray} {l : List α} (h : Asc f l) (x : α) : Asc f (inG f l x) := by
  unfold inG Asc
  rw [List.pairwise_append]
  refine ⟨Asc.filter h _, List.pairwise_cons.2 ⟨fun y hy => (List.mem_filter.1 hy).2, Asc.filter h _⟩, fun a ha b hb => ?_⟩
  have h1 := (List.mem_filter.1 ha).2
  rcases List.mem_cons.1 hb with rfl | hb
  · exact h1
  · exact ltB_transZ h1 (List.mem_filter.1 hb).2
/-- The items of some, each name once: the last one of it. -/
def ofI (l : List Itm) : List Itm := l.foldl (inG Itm.n) []
theorem foldI_asc (l : List Itm) {o : List Itm} (h : Asc Itm.n o) : Asc Itm.n (l.foldl (inG Itm.n) o) := by
  induction l generalizing o with
  | nil => exact h
  | cons x r ih => exact ih (inG_asc h x)
theorem ofI_asc (l : List Itm) : Asc Itm.n (ofI l) := foldI_asc l Asc.nil
/-- One change done. -/
def stepC (o : List Itm) (c : Chg) : List Itm := if c.gone = true then (inG Itm.n o ⟨c.n, c.val⟩).filter (fun y => decide (y.n ≠ c.n)) else inG Itm.n o ⟨c.n, c.val⟩
theorem stepC_asc {o : List Itm} (h : Asc Itm.n o) (c : Chg) : Asc Itm.n (stepC o c) := by
  unfold stepC; split
  · exact Asc.filter (inG_asc h _) _
  · exact inG_asc h _
theorem stepC_gone {o : List Itm} (h : Asc Itm.n o) {c : Chg} (g : c.gone = true) : stepC o c = o.filter (fun y => decide (y.n ≠ c.n)) := by
  refine Asc.same (f := Itm.n) (stepC_asc h c) (Asc.filter h _) fun y => ?_
  unfold stepC
  rw [if_pos g]
  simp only [List.mem_filter, inG_mem, decide_eq_true_eq]
  constructor
  · rintro ⟨rfl | ⟨h1, -⟩, h2⟩
    · exact absurd rfl h2
    · exact ⟨h1, h2⟩
  · rintro ⟨h1, h2⟩
    exact ⟨.inr ⟨h1, h2⟩, h2⟩
def withI (l : List Itm) (c : List Chg) : List Itm := c.foldl stepC (ofI l)
theorem foldC_asc (c : List Chg) {o : List Itm} (h : Asc Itm.n o) : Asc Itm.n (c.foldl stepC o) := by
  induction c generalizing o with
  | nil => exact h
  | cons x r ih => exact ih (stepC_asc h x)
theorem withI_asc (l : List Itm) (c : List Chg) : Asc Itm.n (withI l c) := foldC_asc c (ofI_asc l)
/-- What is told of changes from what rises to what rises. -/
def DiffC (a b : List Itm) (c : Chg) : Prop := (∃ x ∈ b, x ∉ a ∧ c = ⟨x.n, x.val, false⟩) ∨ (∃ y ∈ a, (∀ x ∈ b, x.n ≠ y.n) ∧ c = ⟨y.n, ⟨#[]⟩, true⟩)
end Go.Proofs.YtbilnomafloopaaGreat

namespace Go.Proofs.YtbilnomafloopaaGreat
set_option maxRecDepth 100000
open Go.ChangeShapes Go.WideShapes Go.ChangeAt Go.RowKit
set_option linter.unusedVariables false
set_option linter.unusedSimpArgs false
set_option maxRecDepth 100000
/-- cellarer/api.Part, as a value, and as it lies in memory. -/
structure Prt where
  n : Int
  data : ByteArray
def prt (v : Prt) : Value := .agg #[.int .i64 v.n, .string v.data]
def pcl (v : Prt) : List Value := [.int .i64 v.n, .string v.data]
def okPt (v : Prt) : Prop := -9223372036854775808 ≤ v.n ∧ v.n ≤ 9223372036854775807 ∧ v.data.size ≤ maxLen
/-- It lies at p. -/
def AtP (w : World) (p : Addr) (v : Prt) : Prop :=
  w.cell? p = some (.int .i64 v.n) ∧ w.cell? ⟨p.block, p.off + 1, none⟩ = some (.string v.data)
/-- A slice whose elements are these; all of it lies below block B. -/
def Prts (w : World) (B : Nat) (v : Value) (l : List Prt) : Prop :=
  ∃ A c, v = .slice A l.length c ∧ l.length ≤ c ∧ (A = none → c = 0) ∧ (∀ x ∈ l, okPt x) ∧ ∀ k (h : k < l.length), ∃ a : Addr, A = some a ∧ a.block < B ∧ AtP w (a.add (k * 2)) l[k]
theorem AtP.keep {w w' : World} {p : Addr} {v : Prt} (h : AtP w p v) {B : Nat} (hp : p.block < B) (k : ∀ p : Addr, p.block < B → w'.cell? p = w.cell? p) : AtP w' p v :=
  ⟨(k p hp).trans h.1, (k ⟨p.block, p.off + 1, none⟩ hp).trans h.2⟩
theorem Prts.keep {w w' : World} {B : Nat} {v : Value} {l : List Prt} (h : Prts w B v l) (k : ∀ p : Addr, p.block < B → w'.cell? p = w.cell? p) : Prts w' B v l := by
  obtain ⟨A, c, e, e0, ez, eo, f⟩ := h
  refine ⟨A, c, e, e0, ez, eo, fun i hi => ?_⟩
  obtain ⟨a, e1, e2, e3⟩ := f i hi
  exact ⟨a, e1, e2, e3.keep (by rw [add_block]; exact e2) k⟩
theorem Prts.below {w w' : World} {B : Nat} {v : Value} {l : List Prt} (h : Prts w B v l) (k : Below B w w') : Prts w' B v l := h.keep fun _ hp => k.cell hp
theorem Prts.more {w : World} {B B' : Nat} {v : Value} {l : List Prt} (h : Prts w B v l) (k : B ≤ B') : Prts w B' v l := by
  obtain ⟨A, c, e, e0, ez, eo, f⟩ := h
  refine ⟨A, c, e, e0, ez, eo, fun i hi => ?_⟩
  obtain ⟨a, e1, e2, e3⟩ := f i hi
  exact ⟨a, e1, by omega, e3⟩
theorem Prts.on {w w' : World} {v : Value} {l : List Prt} (h : Prts w w.heap.size v l) (k : Q w w') : Prts w' w'.heap.size v l := (h.below k).more k.size
theorem Prts.nil (w : World) (B : Nat) : Prts w B (.slice none 0 0) [] := ⟨none, 0, rfl, Nat.le_refl _, fun _ => rfl, by simp, fun k h => absurd h (by simp)⟩
theorem Prts.okAll {w : World} {B : Nat} {v : Value} {l : List Prt} (h : Prts w B v l) : ∀ x ∈ l, okPt x := by
  obtain ⟨A, c, e, e0, ez, eo, f⟩ := h; exact eo
theorem Prts.form {w : World} {B : Nat} {v : Value} {l : List Prt} (h : Prts w B v l) : ∃ A c, v = .slice A l.length c := by
  obtain ⟨A, c, e, -⟩ := h; exact ⟨A, c, e⟩
/-- One of a slice, as it lies in every later world. -/
theorem Prts.pick {w : World} {v : Value} {l : List Prt} (h : Prts w w.heap.size v l) (i : Nat) (hi : i < l.length) :
    ∃ (a : Addr) (c : Nat), v = .slice (some a) l.length c ∧ a.block < w.heap.size ∧ okPt l[i] ∧ ∀ d, Q w d → AtP d (a.add (i * 2)) l[i] := by
  obtain ⟨A, c, rfl, -, -, eo, f⟩ := h
  obtain ⟨a, rfl, ha, h1⟩ := f i hi
  exact ⟨a, c, rfl, ha, eo _ (List.getElem_mem hi), fun d q => h1.keep (by rw [add_block]; exact ha) fun _ hp => q.cell hp⟩
theorem cells_part : Tryz.prog.cellsOf 88 = 2 := by kernel_rfl
theorem part_cellE {H : Type} {enc : TypeId × Value → H} {W : World} {n : Nat} {v : Value} {y : DataW H × List MemPlace}
    (hf : DataW.trod enc Tryz.prog W 0 (fun _ => true) true n 64 [v] = some y) : ∃ l : List Prt, Prts W W.heap.size v l ∧ l.length ≤ maxLen := by
  rcases Deep.open_slice Tryz.underlying64 hf with ⟨hcs, hx⟩ | ⟨a, len', cap', m, n, D, Pl, hcs, _, hl, hm, hmm, hx, hel⟩
  · simp at hcs
    subst hcs
    exact ⟨[], Prts.nil _ _, by simp⟩
  · simp at hcs
    subst hcs
    have each : ∀ i, i < len' → ∃ x : Prt, okPt x ∧ AtP W (a.add (i * 2)) x := by
      intro i hi
      obtain ⟨cs', h1, h2⟩ := hel i (by rw [hmm]; simp; omega)
      rw [cells_part] at h1
      obtain ⟨-, hlen4, hcell⟩ := World.cells?_some h1
      obtain ⟨y0, y1, n', -, -, g0, g1⟩ := trod_struct2 Tryz.underlying88 h2
      obtain ⟨v0, v1, rfl⟩ : ∃ a b, cs' = [a, b] := by
        match cs', hlen4 with
        | [a, b], _ => exact ⟨a, b, rfl⟩
      have c0 : Tryz.prog.cellsOf 3 = 1 := by kernel_rfl
      have c1 : Tryz.prog.cellsOf 9 = 1 := by kernel_rfl
      simp [c0, c1] at g0 g1
      obtain ⟨s0, e0, -, w0⟩ := DataW.trod_int Tryz.underlying3 g0
      obtain ⟨s1, e1, -, w1⟩ := DataW.trod_string Tryz.underlying9 g1
      simp at e0 e1
      subst e0 e1
      refine ⟨⟨s0, s1⟩, ⟨(wf64 w0).1, (wf64 w0).2, w1⟩, ?_, ?_⟩
      · exact hcell 0 (by omega)
      · exact (congrArg W.cell? (add_pos _ (by omega : 0 < 1)).symm).trans (hcell 1 (by omega))
    obtain ⟨l, hlen, hp⟩ := list_of len' each
    refine ⟨l, ⟨some a, cap', by rw [hlen], by omega, (by simp), ?_, fun k hk => ⟨a, rfl, ?_, (hp k hk).2⟩⟩, by omega⟩
    · intro x hx
      obtain ⟨k, hk, rfl⟩ := List.getElem_of_mem hx
      exact (hp k hk).1
    · have := World.block_lt_of_cell? W _ (hp k hk).2.1
      rw [add_block] at this; exact this
theorem info_part : (Tryz.prog.info? 88).map (fun i => (i.zero, i.size, i.bytes)) = some (some (.agg #[.int .i64 0, .string ⟨#[]⟩]), 2, 24) := by kernel_rfl
/-- v is a row of the call's own, from block base on, of these. -/
def OwnP (base : Nat) (w : World) (v : Value) (l : List Prt) : Prop := w.ownsRow base 88 2 v l.length (l.flatMap pcl)
theorem OwnP.nil (base : Nat) (w : World) : OwnP base w (.slice none 0 0) [] := World.ownsRow_nil w _ _ _
theorem flat_pcl (l : List Prt) : (l.flatMap pcl).length = l.length * 2 := by
  induction l with
  | nil => rfl
  | cons x r ih => rw [List.flatMap_cons, List.length_append, ih, List.length_cons, show (pcl x).length = 2 by rfl]; omega
theorem flat_atpart (l : List Prt) (k : Nat) (h : k < l.length) {j : Nat} (hj : j < 2) : (l.flatMap pcl)[k * 2 + j]? = (pcl l[k])[j]? := by
  induction l generalizing k with
  | nil => simp at h
  | cons x r ih =>
    rw [List.flatMap_cons]
    cases k with
    | zero => rw [List.getElem?_append_left (by rw [show (pcl x).length = 2 by rfl]; omega)]; simp
    | succ k =>
      rw [List.getElem?_append_right (by rw [show (pcl x).length = 2 by rfl]; omega), show (k + 1) * 2 + j - (pcl x).length = k * 2 + j by rw [show (pcl x).length = 2 by rfl]; omega, ih k (by simpa using h)]
      rfl
theorem OwnP.read {base : Nat} {w : World} {v : Value} {l : List Prt} (h : OwnP base w v l) (hl : ∀ x ∈ l, okPt x) : Prts w w.heap.size v l := by
  rcases h.2 with ⟨rfl, h0⟩ | ⟨g, cap, cur, rfl, hb, hg, h1, h2, h3, h4⟩
  · rw [List.length_eq_zero_iff.1 h0]; exact Prts.nil _ _
  · refine ⟨_, _, rfl, h1, (by simp), hl, fun k hk => ⟨⟨g, 0, none⟩, rfl, lt_of_block hg, ?_⟩⟩
    have hc : ∀ j, j < 2 → w.cell? ((⟨g, 0, none⟩ : Addr).add (k * 2 + j)) = (pcl l[k])[j]? := by
      intro j hj
      have := flat_atpart l k hk hj
      obtain ⟨u, hu⟩ : ∃ u, (pcl l[k])[j]? = some u := ⟨_, List.getElem?_eq_getElem (by rw [show (pcl l[k]).length = 2 by rfl]; exact hj)⟩
      rw [hu] at this ⊢
      exact World.ownsRow.cells h (g := g) rfl _ _ this
    have ha : ∀ j, 0 < j → (⟨g, 0, none⟩ : Addr).add (k * 2 + j) = ⟨((⟨g, 0, none⟩ : Addr).add (k * 2)).block, ((⟨g, 0, none⟩ : Addr).add (k * 2)).off + j, none⟩ := by
      intro j hj
      rw [add_pos _ (by omega), add_block]
      unfold Addr.add
      split
      · rename_i h0; simp [h0]
      · simp [Nat.add_assoc]
    refine ⟨hc 0 (by omega), ?_⟩
    · rw [← ha 1 (by omega)]; exact hc 1 (by omega)
theorem OwnP.on {base : Nat} {w w' : World} {v : Value} {l : List Prt} (h : OwnP base w v l) (q : Q w w') : OwnP base w' v l := by
  rcases h.2 with ⟨rfl, h0⟩ | ⟨g, cap, cur, rfl, hb, hg, h1, h2, h3, h4⟩
  · exact ⟨h.1, .inl ⟨rfl, h0⟩⟩
  · exact ⟨h.1, .inr ⟨g, cap, cur, rfl, hb, (q.block g (lt_of_block hg)).trans hg, h1, h2, h3, h4⟩⟩
theorem OwnP.low {base b2 : Nat} {w : World} {v : Value} {l : List Prt} (h : OwnP base w v l) (k : b2 ≤ base) : OwnP b2 w v l := by
  rcases h.2 with ⟨rfl, h0⟩ | ⟨g, cap, cur, rfl, hb, r⟩
  · exact ⟨h.1, .inl ⟨rfl, h0⟩⟩
  · exact ⟨h.1, .inr ⟨g, cap, cur, rfl, by omega, r⟩⟩
theorem OwnP.form {base : Nat} {w : World} {v : Value} {l : List Prt} (h : OwnP base w v l) : ∃ A c, v = .slice A l.length c := by
  rcases h.2 with ⟨rfl, h0⟩ | ⟨g, cap, cur, rfl, -⟩
  · exact ⟨none, 0, by rw [h0]⟩
  · exact ⟨_, _, rfl⟩
theorem pcl_one (x : Prt) : ∀ u ∈ pcl x, u.oneCell' = true := by
  intro u hu
  simp [pcl] at hu
  rcases hu with rfl | rfl <;> rfl
theorem OwnP.onto {base k : Nat} {w2 : World} {v2 : Value} {L M : List Prt} (h1 : w2.ownsRow base 88 2 v2 (L.length + k) (L.flatMap pcl ++ M.flatMap pcl)) (hk : k = M.length) : OwnP base w2 v2 (L ++ M) := by
  subst hk
  unfold OwnP
  rw [List.flatMap_append, List.length_append]
  exact h1
theorem OwnP.grown {base : Nat} {w0 wr w2 : World} {v : Value} {L : List Prt} (hown : OwnP base wr v L) (hbel : Below base w0 wr) (hb : base ≤ wr.heap.size) (h2 : wr.grownBy w2 v.ownBlock) : Below base w0 w2 :=
  hbel.grown h2 hb (fun k hk => (World.ownsRow.lt hown k hk).1)
theorem cells_onepart (w : World) (x : Prt) (t : TypeId) : ∀ j u, (pcl x)[j]? = some u → (w.alloc (.cells (pcl x).toArray t)).cell? ((⟨w.heap.size, 0, none⟩ : Addr).add j) = some u := by
  intro j u hj
  obtain ⟨hj2, rfl⟩ := List.getElem?_eq_some_iff.1 hj
  match j, hj2 with
  | 0, _ => simp [Addr.add, pcl]
  | 1, _ => simp [Addr.add, pcl]
theorem Prts.flat {w : World} {B : Nat} {a : Addr} {n c : Nat} {l : List Prt} (h : Prts w B (.slice (some a) n c) l) : ∀ j u, (l.flatMap pcl)[j]? = some u → w.cell? (a.add j) = some u := by
  obtain ⟨A, c', e, -, -, -, f⟩ := h
  injection e with e1 e2 e3
  intro j u hu
  obtain ⟨hj, -⟩ := List.getElem?_eq_some_iff.1 hu
  rw [flat_pcl] at hj
  have hk : j / 2 < l.length := by omega
  obtain ⟨a', ea, -, hat⟩ := f (j / 2) hk
  rw [← e1] at ea
  injection ea with ea
  subst ea
  have hj2 : j = j / 2 * 2 + j % 2 := by omega
  rw [hj2, flat_atpart l _ hk (by omega)] at hu
  have hadd : ∀ r, 0 < r → a.add (j / 2 * 2 + r) = ⟨(a.add (j / 2 * 2)).block, (a.add (j / 2 * 2)).off + r, none⟩ := by
    intro r hr
    rw [add_pos _ (by omega), add_block]
    unfold Addr.add
    split
    · simp [*]
    · simp [Nat.add_assoc]
  obtain ⟨c0, c1⟩ := hat
  rw [hj2]
  have hr : j % 2 < 2 := by omega
  match hm : j % 2, hr with
  | 0, _ => rw [hm] at hu; simp [pcl] at hu; rw [Nat.add_zero, c0, ← hu]
  | 1, _ => rw [hm] at hu; simp [pcl] at hu; rw [hadd 1 (by omega), c1, ← hu]
/-- cellarer/api.Piece, as a value, and as it lies in memory. -/
structure Pce where
  n : Int
  tag : Nat
def pce (v : Pce) : Value := .agg #[.int .i64 v.n, .int .u32 (v.tag : Nat)]
def ccl (v : Pce) : List Value := [.int .i64 v.n, .int .u32 (v.tag : Nat)]
def okC (v : Pce) : Prop := -9223372036854775808 ≤ v.n ∧ v.n ≤ 9223372036854775807 ∧ v.tag < 4294967296
/-- It lies at p. -/
def AtC (w : World) (p : Addr) (v : Pce) : Prop :=
  w.cell? p = some (.int .i64 v.n) ∧ w.cell? ⟨p.block, p.off + 1, none⟩ = some (.int .u32 (v.tag : Nat))
/-- A slice whose elements are these; all of it lies below block B. -/
def Pces (w : World) (B : Nat) (v : Value) (l : List Pce) : Prop :=
  ∃ A c, v = .slice A l.length c ∧ l.length ≤ c ∧ (A = none → c = 0) ∧ (∀ x ∈ l, okC x) ∧ ∀ k (h : k < l.length), ∃ a : Addr, A = some a ∧ a.block < B ∧ AtC w (a.add (k * 2)) l[k]
theorem AtC.keep {w w' : World} {p : Addr} {v : Pce} (h : AtC w p v) {B : Nat} (hp : p.block < B) (k : ∀ p : Addr, p.block < B → w'.cell? p = w.cell? p) : AtC w' p v :=
  ⟨(k p hp).trans h.1, (k ⟨p.block, p.off + 1, none⟩ hp).trans h.2⟩
theorem Pces.keep {w w' : World} {B : Nat} {v : Value} {l : List Pce} (h : Pces w B v l) (k : ∀ p : Addr, p.block < B → w'.cell? p = w.cell? p) : Pces w' B v l := by
  obtain ⟨A, c, e, e0, ez, eo, f⟩ := h
  refine ⟨A, c, e, e0, ez, eo, fun i hi => ?_⟩
  obtain ⟨a, e1, e2, e3⟩ := f i hi
  exact ⟨a, e1, e2, e3.keep (by rw [add_block]; exact e2) k⟩
theorem Pces.below {w w' : World} {B : Nat} {v : Value} {l : List Pce} (h : Pces w B v l) (k : Below B w w') : Pces w' B v l := h.keep fun _ hp => k.cell hp
theorem Pces.more {w : World} {B B' : Nat} {v : Value} {l : List Pce} (h : Pces w B v l) (k : B ≤ B') : Pces w B' v l := by
  obtain ⟨A, c, e, e0, ez, eo, f⟩ := h
  refine ⟨A, c, e, e0, ez, eo, fun i hi => ?_⟩
  obtain ⟨a, e1, e2, e3⟩ := f i hi
  exact ⟨a, e1, by omega, e3⟩
theorem Pces.on {w w' : World} {v : Value} {l : List Pce} (h : Pces w w.heap.size v l) (k : Q w w') : Pces w' w'.heap.size v l := (h.below k).more k.size
theorem Pces.nil (w : World) (B : Nat) : Pces w B (.slice none 0 0) [] := ⟨none, 0, rfl, Nat.le_refl _, fun _ => rfl, by simp, fun k h => absurd h (by simp)⟩
theorem Pces.okAll {w : World} {B : Nat} {v : Value} {l : List Pce} (h : Pces w B v l) : ∀ x ∈ l, okC x := by
  obtain ⟨A, c, e, e0, ez, eo, f⟩ := h; exact eo
theorem Pces.form {w : World} {B : Nat} {v : Value} {l : List Pce} (h : Pces w B v l) : ∃ A c, v = .slice A l.length c := by
  obtain ⟨A, c, e, -⟩ := h; exact ⟨A, c, e⟩
/-- One of a slice, as it lies in every later world. -/
theorem Pces.pick {w : World} {v : Value} {l : List Pce} (h : Pces w w.heap.size v l) (i : Nat) (hi : i < l.length) :
    ∃ (a : Addr) (c : Nat), v = .slice (some a) l.length c ∧ a.block < w.heap.size ∧ okC l[i] ∧ ∀ d, Q w d → AtC d (a.add (i * 2)) l[i] := by
  obtain ⟨A, c, rfl, -, -, eo, f⟩ := h
  obtain ⟨a, rfl, ha, h1⟩ := f i hi
  exact ⟨a, c, rfl, ha, eo _ (List.getElem_mem hi), fun d q => h1.keep (by rw [add_block]; exact ha) fun _ hp => q.cell hp⟩
/-- v is a row of the call's own, from block base on, of these. -/
def OwnC (base : Nat) (w : World) (v : Value) (l : List Pce) : Prop := w.ownsRow base 222 2 v l.length (l.flatMap ccl)
theorem OwnC.nil (base : Nat) (w : World) : OwnC base w (.slice none 0 0) [] := World.ownsRow_nil w _ _ _
theorem flat_ccl (l : List Pce) : (l.flatMap ccl).length = l.length * 2 := by
  induction l with
  | nil => rfl
  | cons x r ih => rw [List.flatMap_cons, List.length_append, ih, List.length_cons, show (ccl x).length = 2 by rfl]; omega
theorem flat_atpce (l : List Pce) (k : Nat) (h : k < l.length) {j : Nat} (hj : j < 2) : (l.flatMap ccl)[k * 2 + j]? = (ccl l[k])[j]? := by
  induction l generalizing k with
  | nil => simp at h
  | cons x r ih =>
    rw [List.flatMap_cons]
    cases k with
    | zero => rw [List.getElem?_append_left (by rw [show (ccl x).length = 2 by rfl]; omega)]; simp
    | succ k =>
      rw [List.getElem?_append_right (by rw [show (ccl x).length = 2 by rfl]; omega), show (k + 1) * 2 + j - (ccl x).length = k * 2 + j by rw [show (ccl x).length = 2 by rfl]; omega, ih k (by simpa using h)]
      rfl
theorem OwnC.read {base : Nat} {w : World} {v : Value} {l : List Pce} (h : OwnC base w v l) (hl : ∀ x ∈ l, okC x) : Pces w w.heap.size v l := by
  rcases h.2 with ⟨rfl, h0⟩ | ⟨g, cap, cur, rfl, hb, hg, h1, h2, h3, h4⟩
  · rw [List.length_eq_zero_iff.1 h0]; exact Pces.nil _ _
  · refine ⟨_, _, rfl, h1, (by simp), hl, fun k hk => ⟨⟨g, 0, none⟩, rfl, lt_of_block hg, ?_⟩⟩
    have hc : ∀ j, j < 2 → w.cell? ((⟨g, 0, none⟩ : Addr).add (k * 2 + j)) = (ccl l[k])[j]? := by
      intro j hj
      have := flat_atpce l k hk hj
      obtain ⟨u, hu⟩ : ∃ u, (ccl l[k])[j]? = some u := ⟨_, List.getElem?_eq_getElem (by rw [show (ccl l[k]).length = 2 by rfl]; exact hj)⟩
      rw [hu] at this ⊢
      exact World.ownsRow.cells h (g := g) rfl _ _ this
    have ha : ∀ j, 0 < j → (⟨g, 0, none⟩ : Addr).add (k * 2 + j) = ⟨((⟨g, 0, none⟩ : Addr).add (k * 2)).block, ((⟨g, 0, none⟩ : Addr).add (k * 2)).off + j, none⟩ := by
      intro j hj
      rw [add_pos _ (by omega), add_block]
      unfold Addr.add
      split
      · rename_i h0; simp [h0]
      · simp [Nat.add_assoc]
    refine ⟨hc 0 (by omega), ?_⟩
    · rw [← ha 1 (by omega)]; exact hc 1 (by omega)
theorem OwnC.on {base : Nat} {w w' : World} {v : Value} {l : List Pce} (h : OwnC base w v l) (q : Q w w') : OwnC base w' v l := by
  rcases h.2 with ⟨rfl, h0⟩ | ⟨g, cap, cur, rfl, hb, hg, h1, h2, h3, h4⟩
  · exact ⟨h.1, .inl ⟨rfl, h0⟩⟩
  · exact ⟨h.1, .inr ⟨g, cap, cur, rfl, hb, (q.block g (lt_of_block hg)).trans hg, h1, h2, h3, h4⟩⟩
theorem OwnC.low {base b2 : Nat} {w : World} {v : Value} {l : List Pce} (h : OwnC base w v l) (k : b2 ≤ base) : OwnC b2 w v l := by
  rcases h.2 with ⟨rfl, h0⟩ | ⟨g, cap, cur, rfl, hb, r⟩
  · exact ⟨h.1, .inl ⟨rfl, h0⟩⟩
  · exact ⟨h.1, .inr ⟨g, cap, cur, rfl, by omega, r⟩⟩
theorem OwnC.form {base : Nat} {w : World} {v : Value} {l : List Pce} (h : OwnC base w v l) : ∃ A c, v = .slice A l.length c := by
  rcases h.2 with ⟨rfl, h0⟩ | ⟨g, cap, cur, rfl, -⟩
  · exact ⟨none, 0, by rw [h0]⟩
  · exact ⟨_, _, rfl⟩
theorem OwnC.onto {base k : Nat} {w2 : World} {v2 : Value} {L M : List Pce} (h1 : w2.ownsRow base 222 2 v2 (L.length + k) (L.flatMap ccl ++ M.flatMap ccl)) (hk : k = M.length) : OwnC base w2 v2 (L ++ M) := by
  subst hk
  unfold OwnC
  rw [List.flatMap_append, List.length_append]
  exact h1
theorem OwnC.grown {base : Nat} {w0 wr w2 : World} {v : Value} {L : List Pce} (hown : OwnC base wr v L) (hbel : Below base w0 wr) (hb : base ≤ wr.heap.size) (h2 : wr.grownBy w2 v.ownBlock) : Below base w0 w2 :=
  hbel.grown h2 hb (fun k hk => (World.ownsRow.lt hown k hk).1)
theorem Pces.flat {w : World} {B : Nat} {a : Addr} {n c : Nat} {l : List Pce} (h : Pces w B (.slice (some a) n c) l) : ∀ j u, (l.flatMap ccl)[j]? = some u → w.cell? (a.add j) = some u := by
  obtain ⟨A, c', e, -, -, -, f⟩ := h
  injection e with e1 e2 e3
  intro j u hu
  obtain ⟨hj, -⟩ := List.getElem?_eq_some_iff.1 hu
  rw [flat_ccl] at hj
  have hk : j / 2 < l.length := by omega
  obtain ⟨a', ea, -, hat⟩ := f (j / 2) hk
  rw [← e1] at ea
  injection ea with ea
  subst ea
  have hj2 : j = j / 2 * 2 + j % 2 := by omega
  rw [hj2, flat_atpce l _ hk (by omega)] at hu
  have hadd : ∀ r, 0 < r → a.add (j / 2 * 2 + r) = ⟨(a.add (j / 2 * 2)).block, (a.add (j / 2 * 2)).off + r, none⟩ := by
    intro r hr
    rw [add_pos _ (by omega), add_block]
    unfold Addr.add
    split
    · simp [*]
    · simp [Nat.add_assoc]
  obtain ⟨c0, c1⟩ := hat
  rw [hj2]
  have hr : j % 2 < 2 := by omega
  match hm : j % 2, hr with
  | 0, _ => rw [hm] at hu; simp [ccl] at hu; rw [Nat.add_zero, c0, ← hu]
  | 1, _ => rw [hm] at hu; simp [ccl] at hu; rw [hadd 1 (by omega), c1, ← hu]
end Go.Proofs.YtbilnomafloopaaGreat

namespace Go.Proofs.YtbilnomafloopaaGreat
set_option maxRecDepth 100000
open Go.ChangeShapes Go.WideShapes Go.ChangeAt Go.RowKit
set_option linter.unusedVariables false
set_option linter.unusedSimpArgs false
@[go_sem] theorem binOp_string_geq (t : TypeId) (a b : ByteArray) : binOp .geq t (.string a) (.string b) = pure (.bool !(Op.bytesLess a.toList b.toList)) := by simp [binOp, Op.stringOp]
@[go_sem] theorem binOp_string_gtr (t : TypeId) (a b : ByteArray) : binOp .gtr t (.string a) (.string b) = pure (.bool !(Op.bytesLess a.toList b.toList || a.toList == b.toList)) := by simp [binOp, Op.stringOp]
@[go_sem] theorem binOp_string_leq (t : TypeId) (a b : ByteArray) : binOp .leq t (.string a) (.string b) = pure (.bool (Op.bytesLess a.toList b.toList || a.toList == b.toList)) := by simp [binOp, Op.stringOp]
def fewS (s : ByteArray) : ByteArray := if 80 < s.size then s.extract 0 80 else s
theorem fewS_size (s : ByteArray) : (fewS s).size ≤ 80 := by
  unfold fewS; split
  · simp; omega
  · omega
theorem fewS_any (s : ByteArray) (w : World) (hs : s.size ≤ maxLen) :
    Calls Tryz.prog 48 #[.string s] w fun e w' => e = .returned (.string (fewS s)) ∧ w = w' := by
  unfold maxLen at hs
  have hf : fewS s = if 80 < s.size then s.extract 0 80 else s := rfl
  have HF := Lib.hid hf
  clear hf
  by_cases h : 80 < s.size
  · go_enter Tryz.func48, Tryz.ntmps48
    go_wp2
    go_ret
    exact ⟨ret_str (by rw [HF.out, if_pos h]), rfl⟩
  · go_enter Tryz.func48, Tryz.ntmps48
    go_wp2
    go_ret
    exact ⟨ret_str (by rw [HF.out, if_neg h]), rfl⟩
end Go.Proofs.YtbilnomafloopaaGreat

namespace Go.Proofs.YtbilnomafloopaaGreat
set_option maxRecDepth 100000
set_option linter.unusedVariables false
open Go.ChangeShapes Go.WideShapes Go.ChangeAt Go.RowKit
def ko (n : Int) : Bool := decide (32 ≤ n) && decide (n ≤ 126)
def bo (n : Int) : Bool := (decide (97 ≤ n) && decide (n ≤ 122)) || (decide (48 ≤ n) && decide (n ≤ 57)) || n == 45
theorem ko_any (n : Int) (w : World) (h0 : 0 ≤ n) (h1 : n ≤ 255) :
    Calls Tryz.prog 190 #[.int .u8 n] w fun e w' => e = .returned (.bool (ko n)) ∧ w = w' := by
  have HF := Lib.hid (show ko n = (decide (32 ≤ n) && decide (n ≤ 126)) from rfl)
  by_cases a : 32 ≤ n <;> by_cases b : n ≤ 126
  all_goals
    go_enter Tryz.func190, Tryz.ntmps190
    go_wp2
    go_ret
    exact ⟨ret_bool (by rw [HF.out]; simp [*]), rfl⟩
theorem bo_any (n : Int) (w : World) (h0 : 0 ≤ n) (h1 : n ≤ 255) :
    Calls Tryz.prog 153 #[.int .u8 n] w fun e w' => e = .returned (.bool (bo n)) ∧ w = w' := by
  have HF := Lib.hid (show bo n = ((decide (97 ≤ n) && decide (n ≤ 122)) || (decide (48 ≤ n) && decide (n ≤ 57)) || n == 45) from rfl)
  by_cases a : 97 ≤ n <;> by_cases b : n ≤ 122 <;> by_cases c : 48 ≤ n <;> by_cases d : n ≤ 57 <;> by_cases e : n = 45
  all_goals first | (exfalso; omega) | skip
  all_goals
    have e' : (n == 45) = decide (n = 45) := by rw [Bool.eq_iff_iff]; simp
    have E := Lib.hid e
    first | (have e1 : (n == 45) = true := by simp [e]) | (have e1 : (n == 45) = false := by simp [e])
    clear e e'
    go_enter Tryz.func153, Tryz.ntmps153
    go_wp2
    go_ret
    exact ⟨ret_bool (by rw [HF.out]; simp [E.out, *]), rfl⟩
/-- All octets of a string do. -/
def allO (p : Int → Bool) (s : ByteArray) : Bool := s.data.toList.all fun c => p c.toNat
def hasO (lo hi : Nat) (p : Int → Bool) (s : ByteArray) : Bool := decide (lo ≤ s.size) && decide (s.size ≤ hi) && allO p s
theorem take_snoc (s : ByteArray) (k : Nat) (h : k < s.size) : s.data.toList.take (k + 1) = s.data.toList.take k ++ [s[k]] := by
  rw [List.take_succ_eq_append_getElem (by simpa using h)]; rfl
def okTo (p : Int → Bool) (s : ByteArray) (k : Nat) : Prop := (s.data.toList.take k).all (fun c => p c.toNat) = true
theorem okTo_zero (p : Int → Bool) (s : ByteArray) : okTo p s 0 := by simp [okTo]
theorem okTo_succ {p : Int → Bool} {s : ByteArray} {k : Nat} (h : k < s.size) (a : okTo p s k) (b : p (s[k].toNat : Int) = true) : okTo p s (k + 1) := by
  unfold okTo at *; rw [take_snoc s k h, List.all_append, a]; simp [b]
theorem okTo_end {p : Int → Bool} {s : ByteArray} (a : okTo p s s.size) : allO p s = true := by
  unfold okTo at a; rw [List.take_of_length_le (by simp)] at a; exact a
theorem okTo_not {p : Int → Bool} {s : ByteArray} {k : Nat} (h : k < s.size) (b : p (s[k].toNat : Int) = false) : allO p s = false := by
  unfold allO; rw [List.all_eq_false]; exact ⟨s[k], by rw [show s[k] = s.data.toList[k]'(by simpa using h) from rfl]; exact List.getElem_mem _, by simp [b]⟩
set_option maxHeartbeats 400000 in
theorem hasK (lo hi : Nat) (s : ByteArray) (w : World) (h1 : lo ≤ 1000) (h2 : hi ≤ 1000) (hs : s.size ≤ 1000) :
    Calls Tryz.prog 154 #[.agg #[.int .i64 lo, .int .i64 hi, .func (.func 190) #[] #[]], .string s] w fun e w' => e = .returned (.bool (hasO lo hi ko s)) ∧ Q w w' := by
  have HF := Lib.hid (show hasO lo hi ko s = (decide (lo ≤ s.size) && decide (s.size ≤ hi) && allO ko s) from rfl)
  have hq : ∀ o, Q w (w.alloc o) := fun o => (Q.refl w).alloc o
  have HQ := Lib.hid hq
  clear hq
  by_cases a : lo ≤ s.size
  · by_cases b : s.size ≤ hi
    · go_enter Tryz.func154, Tryz.ntmps154
      go_wp2_with fail
      go_loopw [20] (fun i w1 => ∃ k : Nat, k ≤ s.size ∧ i = .int .i64 k ∧ okTo ko s k ∧ w1.cell? ⟨w.heap.size, 2, none⟩ = some (.func (.func 190) #[] #[]) ∧ Q w w1) (fun i _ => s.size - (intOf i).toNat)
      case atStart => exact ⟨0, Nat.zero_le _, rfl, okTo_zero _ _, by simp [go_sem], HQ.out _⟩
      case round =>
        obtain ⟨k, hk, rfl, ho, hc, hq⟩ := hrel
        by_cases hlt : k < s.size
        · have hb : s[k].toNat < 256 := s[k].toNat_lt
          have h0 : (0 : Int) ≤ (s[k].toNat : Int) := by omega
          have h255 : (s[k].toNat : Int) ≤ 255 := by omega
          have hi1 : (0 : Int) ≤ (k : Int) := by omega
          by_cases hp : ko (s[k].toNat : Int) = true
          · go_wp2_with fail
            go_quiet ((exact quiet_left (ko_any _ _ h0 h255)))
            go_wp2
            go_roundw
            case rel => exact ⟨k + 1, by omega, by go_num, okTo_succ hlt ho hp, hc, hq.drewN _⟩
            case measure => simp [intOf]; omega
          · have hp' : ko (s[k].toNat : Int) = false := by simpa using hp
            clear hp
            go_wp2_with fail
            go_quiet ((exact quiet_left (ko_any _ _ h0 h255)))
            go_wp2
            go_ret
            exact ⟨ret_bool (by rw [HF.out, okTo_not hlt hp']; simp), hq.drewN _⟩
        · obtain rfl : k = s.size := by omega
          go_wp2
          go_ret
          exact ⟨ret_bool (by rw [HF.out, okTo_end ho]; simp [a, b]), hq⟩
    · go_enter Tryz.func154, Tryz.ntmps154
      go_wp2
      go_ret
      exact ⟨ret_bool (by rw [HF.out]; simp [b]), HQ.out _⟩
  · go_enter Tryz.func154, Tryz.ntmps154
    go_wp2
    go_ret
    exact ⟨ret_bool (by rw [HF.out]; simp [a]), HQ.out _⟩
set_option maxHeartbeats 400000 in
theorem hasB (lo hi : Nat) (s : ByteArray) (w : World) (h1 : lo ≤ 1000) (h2 : hi ≤ 1000) (hs : s.size ≤ 1000) :
    Calls Tryz.prog 154 #[.agg #[.int .i64 lo, .int .i64 hi, .func (.func 153) #[] #[]], .string s] w fun e w' => e = .returned (.bool (hasO lo hi bo s)) ∧ Q w w' := by
  have HF := Lib.hid (show hasO lo hi bo s = (decide (lo ≤ s.size) && decide (s.size ≤ hi) && allO bo s) from rfl)
  have hq : ∀ o, Q w (w.alloc o) := fun o => (Q.refl w).alloc o
  have HQ := Lib.hid hq
  clear hq
  by_cases a : lo ≤ s.size
  · by_cases b : s.size ≤ hi
    · go_enter Tryz.func154, Tryz.ntmps154
      go_wp2_with fail
      go_loopw [20] (fun i w1 => ∃ k : Nat, k ≤ s.size ∧ i = .int .i64 k ∧ okTo bo s k ∧ w1.cell? ⟨w.heap.size, 2, none⟩ = some (.func (.func 153) #[] #[]) ∧ Q w w1) (fun i _ => s.size - (intOf i).toNat)
      case atStart => exact ⟨0, Nat.zero_le _, rfl, okTo_zero _ _, by simp [go_sem], HQ.out _⟩
      case round =>
        obtain ⟨k, hk, rfl, ho, hc, hq⟩ := hrel
        by_cases hlt : k < s.size
        · have hb : s[k].toNat < 256 := s[k].toNat_lt
          have h0 : (0 : Int) ≤ (s[k].toNat : Int) := by omega
          have h255 : (s[k].toNat : Int) ≤ 255 := by omega
          have hi1 : (0 : Int) ≤ (k : Int) := by omega
          by_cases hp : bo (s[k].toNat : Int) = true
          · go_wp2_with fail
            go_quiet ((exact quiet_left (bo_any _ _ h0 h255)))
            go_wp2
            go_roundw
            case rel => exact ⟨k + 1, by omega, by go_num, okTo_succ hlt ho hp, hc, hq.drewN _⟩
            case measure => simp [intOf]; omega
          · have hp' : bo (s[k].toNat : Int) = false := by simpa using hp
            clear hp
            go_wp2_with fail
            go_quiet ((exact quiet_left (bo_any _ _ h0 h255)))
            go_wp2
            go_ret
            exact ⟨ret_bool (by rw [HF.out, okTo_not hlt hp']; simp), hq.drewN _⟩
        · obtain rfl : k = s.size := by omega
          go_wp2
          go_ret
          exact ⟨ret_bool (by rw [HF.out, okTo_end ho]; simp [a, b]), hq⟩
    · go_enter Tryz.func154, Tryz.ntmps154
      go_wp2
      go_ret
      exact ⟨ret_bool (by rw [HF.out]; simp [b]), HQ.out _⟩
  · go_enter Tryz.func154, Tryz.ntmps154
    go_wp2
    go_ret
    exact ⟨ret_bool (by rw [HF.out]; simp [a]), HQ.out _⟩
theorem key_any (s : ByteArray) (w : World) (hs : s.size ≤ 1000) :
    Calls Tryz.prog 155 #[.string s] w fun e w' => e = .returned (.bool (hasO 1 60 ko s)) ∧ Q w w' := by
  go_enter Tryz.func155, Tryz.ntmps155
  go_wp2_with fail
  refine (hasK 1 60 _ _ (by omega) (by omega) hs).mono ?_
  rintro e w1 ⟨rfl, hq⟩
  go_wp2
  go_ret
  exact ⟨rfl, hq⟩
/-- A bucket's name. -/
def bucketO (s : ByteArray) : Bool := hasO 3 20 bo s && ((s.data.toList.headD 0).toNat : Int) != 45 && ((s.data.toList.getLastD 0).toNat : Int) != 45
theorem hasO_size {lo hi : Nat} {p : Int → Bool} {s : ByteArray} (h : hasO lo hi p s = true) : lo ≤ s.size ∧ s.size ≤ hi := by
  simp [hasO] at h; omega
theorem head_at (s : ByteArray) (h : 0 < s.size) : s.data.toList.headD 0 = s[0] := by
  obtain ⟨⟨l⟩⟩ := s
  cases l with
  | nil => simp [ByteArray.size] at h
  | cons a l => rfl
theorem last_at (s : ByteArray) (h : 0 < s.size) : s.data.toList.getLastD 0 = s[s.size - 1] := by
  obtain ⟨⟨l⟩⟩ := s
  cases l with
  | nil => simp [ByteArray.size] at h
  | cons a l =>
    show (a :: l).getLastD 0 = (a :: l)[(a :: l).length - 1]
    rw [List.getLastD_eq_getLast?, List.getLast?_eq_getElem?]; simp
set_option maxHeartbeats 400000 in
theorem bucket_any (s : ByteArray) (w : World) (hs : s.size ≤ 1000) :
    Calls Tryz.prog 99 #[.string s] w fun e w' => e = .returned (.bool (bucketO s)) ∧ Q w w' := by
  have HF := Lib.hid (show bucketO s = (hasO 3 20 bo s && ((s.data.toList.headD 0).toNat : Int) != 45 && ((s.data.toList.getLastD 0).toNat : Int) != 45) from rfl)
  have hq : ∀ o, Q w (w.alloc o) := fun o => (Q.refl w).alloc o
  have HQ := Lib.hid hq
  clear hq
  cases hh : hasO 3 20 bo s with
  | false =>
    go_enter Tryz.func99, Tryz.ntmps99
    go_wp2_with fail
    refine (hasB 3 20 _ _ (by omega) (by omega) hs).mono ?_
    rintro e w1 ⟨rfl, hq⟩
    go_wp2
    go_ret
    exact ⟨ret_bool (by rw [HF.out]; simp [hh]), (HQ.out _).trans hq⟩
  | true =>
    have hz := hasO_size hh
    have e0 := head_at s (by omega)
    have e1 := last_at s (by omega)
    rw [e0, e1] at HF
    clear e0 e1
    have i1 : (0 : Int) ≤ (s.size : Int) - 1 := by omega
    have i2 : (s.size : Int) - 1 < s.size := by omega
    go_enter Tryz.func99, Tryz.ntmps99
    go_wp2_with fail
    refine (hasB 3 20 _ _ (by omega) (by omega) hs).mono ?_
    rintro e w1 ⟨rfl, hq⟩
    go_wp2
    all_goals
      go_ret
      exact ⟨ret_bool (by rw [HF.out, hh]; simp_all), (HQ.out _).trans hq⟩
end Go.Proofs.YtbilnomafloopaaGreat

namespace Go.Proofs.YtbilnomafloopaaGreat
set_option maxRecDepth 100000
set_option linter.unusedVariables false
open Go.ChangeShapes Go.WideShapes Go.ChangeAt Go.RowKit
/-- One text begins with another one. -/
def underO (k p : ByteArray) : Bool := decide (p.size ≤ k.size) && (k.extract 0 p.size).toList == p.toList
/-- What the document's Bucket asks of the octet at place i. -/
def boAt (s : ByteArray) (i : Nat) (n : Int) : Bool := (decide (97 ≤ n) && decide (n ≤ 122)) || (decide (48 ≤ n) && decide (n ≤ 57)) || (n == 45 && !(i == 0 || i == s.size - 1))
def bkTo (s : ByteArray) (k : Nat) : Prop := ∀ i (h : i < s.size), i < k → boAt s i (s[i].toNat : Int) = true
end Go.Proofs.YtbilnomafloopaaGreat

namespace Go.Proofs.YtbilnomafloopaaGreat
set_option maxRecDepth 100000
open Go.ChangeShapes Go.WideShapes Go.ChangeAt Go.RowKit
set_option linter.unusedVariables false
set_option linter.unusedSimpArgs false
set_option maxRecDepth 100000
/-- cellarer/api.Upload. -/
structure Upl where
  id : Nat
  key : ByteArray
  L : List Prt
/-- It lies at p; its list lies below block B. -/
def AtU (w : World) (B : Nat) (p : Addr) (e : Upl) : Prop :=
  w.cell? p = some (.int .u64 (e.id : Nat)) ∧ w.cell? ⟨p.block, p.off + 1, none⟩ = some (.string e.key) ∧ ∃ u, w.cell? ⟨p.block, p.off + 2, none⟩ = some u ∧ Prts w B u e.L
def okU (e : Upl) : Prop := e.id < 18446744073709551616 ∧ e.key.size ≤ maxLen ∧ e.L.length ≤ maxLen
/-- A slice whose elements are these; all of it lies below block B. -/
def Upls (w : World) (B : Nat) (v : Value) (l : List Upl) : Prop :=
  ∃ A c, v = .slice A l.length c ∧ l.length ≤ c ∧ (A = none → c = 0) ∧ (∀ x ∈ l, okU x) ∧ ∀ k (h : k < l.length), ∃ a : Addr, A = some a ∧ a.block < B ∧ AtU w B (a.add (k * 3)) l[k]
theorem AtU.below {w w' : World} {B : Nat} {p : Addr} {e : Upl} (h : AtU w B p e) (hp : p.block < B) (k : Below B w w') : AtU w' B p e := by
  obtain ⟨h0, h1, u, hu, h3⟩ := h
  exact ⟨(k.cell hp).trans h0, (k.cell (p := ⟨p.block, p.off + 1, none⟩) hp).trans h1, u, (k.cell (p := ⟨p.block, p.off + 2, none⟩) hp).trans hu, h3.below k⟩
theorem AtU.more {w : World} {B B' : Nat} {p : Addr} {e : Upl} (h : AtU w B p e) (k : B ≤ B') : AtU w B' p e := by
  obtain ⟨h0, h1, u, hu, h3⟩ := h
  exact ⟨h0, h1, u, hu, h3.more k⟩
theorem Upls.below {w w' : World} {B : Nat} {v : Value} {l : List Upl} (h : Upls w B v l) (k : Below B w w') : Upls w' B v l := by
  obtain ⟨A, c, e, e0, ez, eo, f⟩ := h
  refine ⟨A, c, e, e0, ez, eo, fun i hi => ?_⟩
  obtain ⟨a, e1, e2, e3⟩ := f i hi
  exact ⟨a, e1, e2, e3.below (by rw [add_block]; exact e2) k⟩
theorem Upls.more {w : World} {B B' : Nat} {v : Value} {l : List Upl} (h : Upls w B v l) (k : B ≤ B') : Upls w B' v l := by
  obtain ⟨A, c, e, e0, ez, eo, f⟩ := h
  refine ⟨A, c, e, e0, ez, eo, fun i hi => ?_⟩
  obtain ⟨a, e1, e2, e3⟩ := f i hi
  exact ⟨a, e1, by omega, e3.more k⟩
theorem Upls.on {w w' : World} {v : Value} {l : List Upl} (h : Upls w w.heap.size v l) (k : Q w w') : Upls w' w'.heap.size v l := (h.below k).more k.size
theorem Upls.nil (w : World) (B : Nat) : Upls w B (.slice none 0 0) [] := ⟨none, 0, rfl, Nat.le_refl _, fun _ => rfl, by simp, fun k h => absurd h (by simp)⟩
theorem Upls.okAll {w : World} {B : Nat} {v : Value} {l : List Upl} (h : Upls w B v l) : ∀ x ∈ l, okU x := by
  obtain ⟨A, c, e, e0, ez, eo, f⟩ := h; exact eo
theorem Upls.form {w : World} {B : Nat} {v : Value} {l : List Upl} (h : Upls w B v l) : ∃ A c, v = .slice A l.length c := by
  obtain ⟨A, c, e, -⟩ := h; exact ⟨A, c, e⟩
theorem Upls.okIn {w : World} {B : Nat} {v : Value} {l : List Upl} (h : Upls w B v l) : ∀ x ∈ l, ∀ y ∈ x.L, okPt y := by
  obtain ⟨A, c, e, e0, ez, eo, f⟩ := h
  intro x hx
  obtain ⟨k, hk, rfl⟩ := List.getElem_of_mem hx
  obtain ⟨a, -, -, hat⟩ := f k hk
  obtain ⟨h0, h1, u, -, hu⟩ := hat
  exact hu.okAll
/-- One of a slice, as it lies in every later world. -/
theorem Upls.pick {w : World} {v : Value} {l : List Upl} (h : Upls w w.heap.size v l) (i : Nat) (hi : i < l.length) :
    ∃ (a : Addr) (c : Nat), v = .slice (some a) l.length c ∧ a.block < w.heap.size ∧ ∃ A2 c2, Prts w w.heap.size (.slice A2 l[i].L.length c2) l[i].L ∧
      ∀ d, Q w d → d.cell? (a.add (i * 3)) = some (.int .u64 (l[i].id : Nat)) ∧ d.cell? ⟨(a.add (i * 3)).block, (a.add (i * 3)).off + 1, none⟩ = some (.string l[i].key) ∧ d.cell? ⟨(a.add (i * 3)).block, (a.add (i * 3)).off + 2, none⟩ = some (.slice A2 l[i].L.length c2) := by
  obtain ⟨A, c, rfl, -, -, -, f⟩ := h
  obtain ⟨a, rfl, ha, h0, h1, u, h2, hu⟩ := f i hi
  obtain ⟨A2, c2, rfl⟩ := hu.form
  exact ⟨a, c, rfl, ha, A2, c2, hu, fun d q => ⟨(q.cell (p := a.add (i * 3)) (by rw [add_block]; exact ha)).trans h0, (q.cell (p := ⟨(a.add (i * 3)).block, (a.add (i * 3)).off + 1, none⟩) (by show (a.add (i * 3)).block < _; rw [add_block]; exact ha)).trans h1, (q.cell (p := ⟨(a.add (i * 3)).block, (a.add (i * 3)).off + 2, none⟩) (by show (a.add (i * 3)).block < _; rw [add_block]; exact ha)).trans h2⟩⟩
theorem cells_upl : Tryz.prog.cellsOf 66 = 3 := by kernel_rfl
theorem info_upl : (Tryz.prog.info? 66).map (fun i => (i.zero, i.size, i.bytes)) = some (some (.agg #[.int .u64 0, .string ⟨#[]⟩, .slice none 0 0]), 3, 48) := by kernel_rfl
/-- What a row of them is made of: each with the value of its list. -/
def ucl (p : Upl × Value) : List Value := [.int .u64 (p.1.id : Nat), .string p.1.key, p.2]
def shapes_upl (P : List (Upl × Value)) : Prop := ∀ p ∈ P, ∃ A n c, p.2 = .slice A n c
theorem flat_ucl (P : List (Upl × Value)) : (P.flatMap ucl).length = P.length * 3 := by
  induction P with
  | nil => rfl
  | cons x r ih => rw [List.flatMap_cons, List.length_append, ih, List.length_cons, show (ucl x).length = 3 by rfl]; omega
theorem flat_atupl (P : List (Upl × Value)) (k : Nat) (h : k < P.length) {j : Nat} (hj : j < 3) : (P.flatMap ucl)[k * 3 + j]? = (ucl P[k])[j]? := by
  induction P generalizing k with
  | nil => simp at h
  | cons x r ih =>
    rw [List.flatMap_cons]
    cases k with
    | zero => rw [List.getElem?_append_left (by rw [show (ucl x).length = 3 by rfl]; omega)]; simp
    | succ k =>
      rw [List.getElem?_append_right (by rw [show (ucl x).length = 3 by rfl]; omega), show (k + 1) * 3 + j - (ucl x).length = k * 3 + j by rw [show (ucl x).length = 3 by rfl]; omega, ih k (by simpa using h)]
      rfl
theorem ucl_one {p : Upl × Value} (h : ∃ A n c, p.2 = .slice A n c) : ∀ u ∈ ucl p, u.oneCell' = true := by
  intro u hu
  obtain ⟨A, n, c, e⟩ := h
  simp [ucl, e] at hu
  rcases hu with rfl | rfl | rfl <;> rfl
/-- A list that lies below base, or is a row of the call's own, from base on. -/
def AptU (base : Nat) (w : World) (u : Value) (L : List Prt) : Prop := (∀ x ∈ L, okPt x) ∧ L.length ≤ maxLen ∧ (Prts w base u L ∨ OwnP base w u L)
theorem AptU.read {base : Nat} {w : World} {u : Value} {L : List Prt} (h : AptU base w u L) (hb : base ≤ w.heap.size) : Prts w w.heap.size u L := by
  obtain ⟨h1, -, h2 | h2⟩ := h
  · exact h2.more hb
  · exact h2.read h1
theorem AptU.on {base : Nat} {w w' : World} {u : Value} {L : List Prt} (h : AptU base w u L) (q : Q w w') (hb : base ≤ w.heap.size) : AptU base w' u L := by
  obtain ⟨h1, h0, h2 | h2⟩ := h
  · exact ⟨h1, h0, .inl (h2.below (Below.mono q hb))⟩
  · exact ⟨h1, h0, .inr (h2.on q)⟩
theorem AptU.shape {base : Nat} {w : World} {u : Value} {L : List Prt} (h : AptU base w u L) : ∃ A n c, u = .slice A n c := by
  obtain ⟨-, -, h2 | h2⟩ := h
  · obtain ⟨A, c, e⟩ := h2.form; exact ⟨A, _, c, e⟩
  · obtain ⟨A, c, e⟩ := h2.form; exact ⟨A, _, c, e⟩
/-- v is a row of the call's own, from block base on, of these. -/
def RowU (base : Nat) (w : World) (v : Value) (P : List (Upl × Value)) : Prop := w.ownsRow base 66 3 v P.length (P.flatMap ucl)
theorem RowU.on {base : Nat} {w w' : World} {v : Value} {P : List (Upl × Value)} (h : RowU base w v P) (q : Q w w') : RowU base w' v P := by
  rcases h.2 with ⟨rfl, h0⟩ | ⟨g, cap, cur, rfl, hb, hg, h1, h2, h3, h4⟩
  · exact ⟨h.1, .inl ⟨rfl, h0⟩⟩
  · exact ⟨h.1, .inr ⟨g, cap, cur, rfl, hb, (q.block g (lt_of_block hg)).trans hg, h1, h2, h3, h4⟩⟩
theorem AptU.grown {base : Nat} {w w' : World} {v u : Value} {P : List (Upl × Value)} {L : List Prt} (h : AptU base w u L) (r : RowU base w v P) (g : w.grownBy w' v.ownBlock) (hb : base ≤ w.heap.size) : AptU base w' u L := by
  obtain ⟨h1, h0, h2 | h2⟩ := h
  · refine ⟨h1, h0, .inl (h2.keep fun p hp => World.cell?_of_block (g.block p.block (by omega) fun e => ?_))⟩
    have := (World.ownsRow.lt r p.block e.symm).1
    omega
  · refine ⟨h1, h0, .inr (World.ownsRow.kept h2 g ?_)⟩
    rcases h2.2 with ⟨rfl, -⟩ | ⟨k, cap, cur, rfl, -, hk, -⟩
    · exact .inl rfl
    · refine .inr fun e => ?_
      rcases r.2 with ⟨rfl, -⟩ | ⟨k', cap', cur', rfl, -, hk', -⟩
      · simp [Value.ownBlock] at e
      · simp [Value.ownBlock] at e
        subst e
        rw [hk] at hk'
        injection hk' with hk'
        injection hk' with e1 e2
        exact absurd e2 (by decide)
/-- What each of a row is: its texts have a length that may be, its list is Apt. -/
def OwnU1 (base : Nat) (w : World) (p : Upl × Value) : Prop := okU p.1 ∧ AptU base w p.2 p.1.L
/-- A row of them, all as they are. -/
def OwnU (base : Nat) (w : World) (v : Value) (l : List Upl) : Prop := ∃ P : List (Upl × Value), P.map (·.1) = l ∧ RowU base w v P ∧ ∀ p ∈ P, OwnU1 base w p
theorem OwnU.nil (base : Nat) (w : World) : OwnU base w (.slice none 0 0) [] := ⟨[], rfl, World.ownsRow_nil w _ _ _, by simp⟩
theorem OwnU.on {base : Nat} {w w' : World} {v : Value} {l : List Upl} (h : OwnU base w v l) (q : Q w w') (hb : base ≤ w.heap.size) : OwnU base w' v l := by
  obtain ⟨P, e, r, f⟩ := h
  exact ⟨P, e, r.on q, fun p hp => ⟨(f p hp).1, (f p hp).2.on q hb⟩⟩
theorem OwnU.form {base : Nat} {w : World} {v : Value} {l : List Upl} (h : OwnU base w v l) : ∃ A c, v = .slice A l.length c := by
  obtain ⟨P, rfl, r, -⟩ := h
  rw [List.length_map]
  rcases r.2 with ⟨rfl, h0⟩ | ⟨g, cap, cur, rfl, -⟩
  · exact ⟨none, 0, by rw [h0]⟩
  · exact ⟨_, _, rfl⟩
theorem RowU.read {base : Nat} {w : World} {v : Value} {P : List (Upl × Value)} (r : RowU base w v P) (hb : base ≤ w.heap.size) (f : ∀ p ∈ P, okU p.1 ∧ Prts w w.heap.size p.2 p.1.L) : Upls w w.heap.size v (P.map (·.1)) := by
  have ok : ∀ x ∈ P.map (·.1), okU x := by
    intro x hx
    obtain ⟨p, hp, rfl⟩ := List.mem_map.1 hx
    exact (f p hp).1
  rcases r.2 with ⟨rfl, h0⟩ | ⟨g, cap, cur, rfl, hb, hg, h1, h2, h3, h4⟩
  · rw [List.length_eq_zero_iff.1 h0]; exact Upls.nil _ _
  · refine ⟨some ⟨g, 0, none⟩, cap, by rw [List.length_map], by rw [List.length_map]; exact h1, (by simp), ok, fun k hk => ⟨⟨g, 0, none⟩, rfl, lt_of_block hg, ?_⟩⟩
    rw [List.length_map] at hk
    have hc : ∀ j, j < 3 → w.cell? ((⟨g, 0, none⟩ : Addr).add (k * 3 + j)) = (ucl P[k])[j]? := by
      intro j hj
      have := flat_atupl P k hk hj
      obtain ⟨u, hu⟩ : ∃ u, (ucl P[k])[j]? = some u := ⟨_, List.getElem?_eq_getElem (by rw [show (ucl P[k]).length = 3 by rfl]; exact hj)⟩
      rw [hu] at this ⊢
      exact World.ownsRow.cells r (g := g) rfl _ _ this
    have ha : ∀ j, 0 < j → (⟨g, 0, none⟩ : Addr).add (k * 3 + j) = ⟨((⟨g, 0, none⟩ : Addr).add (k * 3)).block, ((⟨g, 0, none⟩ : Addr).add (k * 3)).off + j, none⟩ := by
      intro j hj
      rw [add_pos _ (by omega), add_block]
      unfold Addr.add
      split
      · rename_i h0; simp [h0]
      · simp [Nat.add_assoc]
    rw [List.getElem_map]
    exact ⟨hc 0 (by omega), (by rw [← ha 1 (by omega)]; exact hc 1 (by omega)), P[k].2, (by rw [← ha 2 (by omega)]; exact hc 2 (by omega)), (f _ (List.getElem_mem hk)).2⟩
theorem OwnU.read {base : Nat} {w : World} {v : Value} {l : List Upl} (h : OwnU base w v l) (hb : base ≤ w.heap.size) : Upls w w.heap.size v l := by
  obtain ⟨P, rfl, r, f⟩ := h
  exact r.read hb fun p hp => ⟨(f p hp).1, (f p hp).2.read hb⟩
theorem RowU.onto {base k : Nat} {w2 : World} {v2 : Value} {P R : List (Upl × Value)} (h1 : w2.ownsRow base 66 3 v2 (P.length + k) (P.flatMap ucl ++ R.flatMap ucl)) (hk : k = R.length) : RowU base w2 v2 (P ++ R) := by
  subst hk
  unfold RowU
  rw [List.flatMap_append, List.length_append]
  exact h1
theorem RowU.grown {base : Nat} {w0 wr w2 : World} {v : Value} {P : List (Upl × Value)} (hown : RowU base wr v P) (hbel : Below base w0 wr) (hb : base ≤ wr.heap.size) (h2 : wr.grownBy w2 v.ownBlock) : Below base w0 w2 :=
  hbel.grown h2 hb (fun k hk => (World.ownsRow.lt hown k hk).1)
theorem cells_oneupl (w : World) (p : Upl × Value) (t : TypeId) : ∀ j u, (ucl p)[j]? = some u → (w.alloc (.cells (ucl p).toArray t)).cell? ((⟨w.heap.size, 0, none⟩ : Addr).add j) = some u := by
  intro j u hj
  obtain ⟨hj2, rfl⟩ := List.getElem?_eq_some_iff.1 hj
  match j, hj2 with
  | 0, _ => simp [Addr.add, ucl]
  | 1, _ => simp [Addr.add, ucl]
  | 2, _ => simp [Addr.add, ucl]
/-- All the cells of a slice of them, with the values of their lists. -/
theorem Upls.flat {w : World} {B : Nat} {a : Addr} {n c : Nat} {l : List Upl} (h : Upls w B (.slice (some a) n c) l) :
    ∃ P : List (Upl × Value), P.map (·.1) = l ∧ (∀ p ∈ P, okU p.1 ∧ Prts w B p.2 p.1.L) ∧ ∀ j u, (P.flatMap ucl)[j]? = some u → w.cell? (a.add j) = some u := by
  obtain ⟨A, c', e, -, -, ok, f⟩ := h
  injection e with e1 e2 e3
  have each : ∀ i, i < l.length → ∃ p : Upl × Value, (∀ h : i < l.length, p.1 = l[i]) ∧ Prts w B p.2 p.1.L ∧ w.cell? (a.add (i * 3)) = some (.int .u64 (p.1.id : Nat)) ∧ w.cell? ⟨(a.add (i * 3)).block, (a.add (i * 3)).off + 1, none⟩ = some (.string p.1.key) ∧ w.cell? ⟨(a.add (i * 3)).block, (a.add (i * 3)).off + 2, none⟩ = some (p.2) := by
    intro i hi
    obtain ⟨a', ea, -, h0, h1, u, h2, hu⟩ := f i hi
    rw [← e1] at ea
    injection ea with ea
    subst ea
    exact ⟨(l[i], u), fun _ => rfl, hu, h0, h1, h2⟩
  obtain ⟨P, hP, hp⟩ := list_of l.length each
  have hmap : P.map (·.1) = l := by
    refine List.ext_getElem (by rw [List.length_map, hP]) fun i h1 h2 => ?_
    rw [List.getElem_map]
    exact (hp i (by rw [hP]; exact h2)).1 h2
  refine ⟨P, hmap, fun p hm => ?_, fun j u hu => ?_⟩
  · obtain ⟨k, hk, rfl⟩ := List.getElem_of_mem hm
    have hmem : P[k].1 ∈ l := by rw [← hmap]; exact List.mem_map.2 ⟨_, hm, rfl⟩
    exact ⟨ok _ hmem, (hp k hk).2.1⟩
  · obtain ⟨hj, -⟩ := List.getElem?_eq_some_iff.1 hu
    rw [flat_ucl] at hj
    have hk : j / 3 < P.length := by omega
    have hj2 : j = j / 3 * 3 + j % 3 := by omega
    rw [hj2, flat_atupl P _ hk (by omega)] at hu
    obtain ⟨-, -, c0, c1, c2⟩ := hp (j / 3) hk
    have hr : j % 3 < 3 := by omega
    have hadd : ∀ r, 0 < r → a.add (j / 3 * 3 + r) = ⟨(a.add (j / 3 * 3)).block, (a.add (j / 3 * 3)).off + r, none⟩ := by
      intro r hr
      rw [add_pos _ (by omega), add_block]
      unfold Addr.add
      split
      · simp [*]
      · simp [Nat.add_assoc]
    rw [hj2]
    match hm : j % 3, hr with
    | 0, _ => rw [hm] at hu; simp [ucl] at hu; rw [Nat.add_zero, c0, ← hu]
    | 1, _ => rw [hm] at hu; simp [ucl] at hu; rw [hadd 1 (by omega), c1, ← hu]
    | 2, _ => rw [hm] at hu; simp [ucl] at hu; rw [hadd 2 (by omega), c2, ← hu]
theorem upl_cellE {H : Type} {enc : TypeId × Value → H} {W : World} {n : Nat} {v : Value} {y : DataW H × List MemPlace}
    (hf : DataW.trod enc Tryz.prog W 0 (fun _ => true) true n 58 [v] = some y) : ∃ l : List Upl, Upls W W.heap.size v l ∧ l.length ≤ maxLen := by
  rcases Deep.open_slice Tryz.underlying58 hf with ⟨hcs, hx⟩ | ⟨a, len', cap', m, n, D, Pl, hcs, _, hl, hm, hmm, hx, hel⟩
  · simp at hcs
    subst hcs
    exact ⟨[], Upls.nil _ _, by simp⟩
  · simp at hcs
    subst hcs
    have each : ∀ i, i < len' → ∃ x : Upl, okU x ∧ AtU W W.heap.size (a.add (i * 3)) x := by
      intro i hi
      obtain ⟨cs', h1, h2⟩ := hel i (by rw [hmm]; simp; omega)
      rw [cells_upl] at h1
      obtain ⟨-, hlen4, hcell⟩ := World.cells?_some h1
      obtain ⟨y0, y1, y2, n', -, -, g0, g1, g2⟩ := Deep.trod_struct3 Tryz.underlying66 h2
      obtain ⟨v0, v1, v2, rfl⟩ : ∃ a b c, cs' = [a, b, c] := by
        match cs', hlen4 with
        | [a, b, c], _ => exact ⟨a, b, c, rfl⟩
      have c0 : Tryz.prog.cellsOf 47 = 1 := by kernel_rfl
      have c1 : Tryz.prog.cellsOf 9 = 1 := by kernel_rfl
      have c2 : Tryz.prog.cellsOf 64 = 1 := by kernel_rfl
      simp [c0, c1, c2] at g0 g1 g2
      obtain ⟨s0, e0, -, w0⟩ := DataW.trod_int Tryz.underlying47 g0
      obtain ⟨s1, e1, -, w1⟩ := DataW.trod_string Tryz.underlying9 g1
      simp at e0 e1
      subst e0 e1
      obtain ⟨s0, rfl, w0n⟩ := wfu64 w0
      obtain ⟨LL, hLL, hml⟩ := part_cellE g2
      refine ⟨⟨s0, s1, LL⟩, ⟨w0n, w1, hml⟩, hcell 0 (by omega), (congrArg W.cell? (add_pos _ (by omega : 0 < 1)).symm).trans (hcell 1 (by omega)), v2, ?_, hLL⟩
      exact (congrArg W.cell? (add_pos _ (by omega : 0 < 2)).symm).trans (hcell 2 (by omega))
    obtain ⟨l, hlen, hp⟩ := list_of len' each
    refine ⟨l, ⟨some a, cap', by rw [hlen], by omega, (by simp), ?_, fun k hk => ⟨a, rfl, ?_, (hp k hk).2⟩⟩, by omega⟩
    · intro x hx
      obtain ⟨k, hk, rfl⟩ := List.getElem_of_mem hx
      exact (hp k hk).1
    · have := World.block_lt_of_cell? W _ (hp k hk).2.1
      rw [add_block] at this; exact this
/-- One by value. -/
def upl (e : Upl) (u : Value) : Value := .agg #[.int .u64 (e.id : Nat), .string e.key, u]
end Go.Proofs.YtbilnomafloopaaGreat

namespace Go.Proofs.YtbilnomafloopaaGreat
set_option maxRecDepth 100000
open Go.ChangeShapes Go.WideShapes Go.ChangeAt Go.RowKit
set_option linter.unusedVariables false
set_option linter.unusedSimpArgs false
def mayP (p : Prt) : Bool := decide (1 ≤ p.n) && decide (p.n ≤ 1000) && decide (p.data.size ≤ 2000)
theorem mayP_iff {p : Prt} : mayP p = true ↔ 1 ≤ p.n ∧ p.n ≤ 1000 ∧ p.data.size ≤ 2000 := by
  unfold mayP
  simp [and_assoc]
def mayN (id : Nat) : Bool := decide (1 ≤ id) && decide (id ≤ 281474976710655)
theorem mayN_iff {id : Nat} : mayN id = true ↔ 1 ≤ id ∧ id ≤ 281474976710655 := by
  unfold mayN
  simp
set_option maxHeartbeats 1000000 in
theorem mayLay_any (p : Prt) (w : World) :
    Calls Tryz.prog 193 #[prt p] w fun e w' => e = .returned (.bool (mayP p)) ∧ Q w w' := by
  have HF := Lib.hid (show mayP p = (decide (1 ≤ p.n) && decide (p.n ≤ 1000) && decide (p.data.size ≤ 2000)) from rfl)
  have HQ := Lib.hid (fun o => (Q.refl w).alloc o)
  obtain ⟨n, d⟩ := p
  rw [prt]
  simp only at HF ⊢
  by_cases h1 : 1 ≤ n
  · by_cases h2 : n ≤ 1000
    · by_cases h3 : d.size ≤ 2000
      · have j3 : (d.size : Int) ≤ 2000 := by omega
        go_enter Tryz.func193, Tryz.ntmps193
        go_wp2
        go_ret
        exact ⟨ret_bool (by rw [HF.out]; (first | (simp [*]; done) | (simp; omega))), HQ.out _⟩
      · have j3 : ¬ (d.size : Int) ≤ 2000 := by omega
        go_enter Tryz.func193, Tryz.ntmps193
        go_wp2
        go_ret
        exact ⟨ret_bool (by rw [HF.out]; (first | (simp [*]; done) | (simp; omega))), HQ.out _⟩
    · go_enter Tryz.func193, Tryz.ntmps193
      go_wp2
      go_ret
      exact ⟨ret_bool (by rw [HF.out]; (first | (simp [*]; done) | (simp; omega))), HQ.out _⟩
  · go_enter Tryz.func193, Tryz.ntmps193
    go_wp2
    go_ret
    exact ⟨ret_bool (by rw [HF.out]; (first | (simp [*]; done) | (simp; omega))), HQ.out _⟩
/-- May an upload have an ID and a key? -/
def mayB (id : Nat) (key : ByteArray) : Bool := mayN id && hasO 1 60 ko key
set_option maxHeartbeats 1000000 in
theorem mayBegin_any (id : Nat) (key : ByteArray) (w : World) (hs : key.size ≤ 1000) :
    Calls Tryz.prog 192 #[.int .u64 (id : Nat), .string key] w fun e w' => e = .returned (.bool (mayB id key)) ∧ Q w w' := by
  have C := Lib.hid (fun d => key_any key d hs)
  by_cases h1 : (1 : Int) ≤ (id : Int)
  · by_cases h2 : (id : Int) ≤ 281474976710655
    · have HF : Hid (mayB id key = hasO 1 60 ko key) := Lib.hid (by rw [mayB, mayN_iff.2 (by omega)]; rfl)
      obtain ⟨r, hr⟩ : ∃ r, r = hasO 1 60 ko key := ⟨_, rfl⟩
      rw [← hr] at C HF
      clear hr
      go_enter Tryz.func192, Tryz.ntmps192
      go_wp2_with fail
      refine (C.out _).mono ?_
      rintro e w1 ⟨rfl, q1⟩
      go_wp2
      go_ret
      exact ⟨ret_bool (by rw [HF.out]), q1⟩
    · have HF : Hid (mayB id key = false) := Lib.hid (by
        have : mayN id = false := by rw [Bool.eq_false_iff]; intro e; have := mayN_iff.1 e; omega
        rw [mayB, this]; rfl)
      go_enter Tryz.func192, Tryz.ntmps192
      go_wp2
      go_ret
      exact ⟨ret_bool (by rw [HF.out]), Q.refl _⟩
  · have HF : Hid (mayB id key = false) := Lib.hid (by
      have : mayN id = false := by rw [Bool.eq_false_iff]; intro e; have := mayN_iff.1 e; omega
      rw [mayB, this]; rfl)
    go_enter Tryz.func192, Tryz.ntmps192
    go_wp2
    go_ret
    exact ⟨ret_bool (by rw [HF.out]), Q.refl _⟩
end Go.Proofs.YtbilnomafloopaaGreat

