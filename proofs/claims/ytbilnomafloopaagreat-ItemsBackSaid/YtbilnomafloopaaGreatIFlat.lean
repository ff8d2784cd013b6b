/-
  Items and changes: as values, as cells, as slices that are read, as rows that a call makes.
-/
import Derived.Test.YtbilnomafloopaaGreatVSame
import Derived.Lib.AppendZerosOnto
import Derived.Lib.SliceRun
import Derived.Laws.AppendOwnNone
namespace Go.Proofs.YtbilnomafloopaaGreat
set_option maxRecDepth 100000
open Go.ChangeShapes Go.WideShapes Go.ChangeAt Go.RowKit
set_option linter.unusedVariables false
set_option linter.unusedSimpArgs false
set_option maxRecDepth 100000

/-- cellarer/api.Item, as a value, and as it lies in memory. -/
structure Itm where
  n : ByteArray
  val : ByteArray
def itm (v : Itm) : Value := .agg #[.string v.n, .string v.val]
def icl (v : Itm) : List Value := [.string v.n, .string v.val]
def okI (v : Itm) : Prop := v.n.size ≤ maxLen ∧ v.val.size ≤ maxLen
/-- It lies at p. -/
def AtI (w : World) (p : Addr) (v : Itm) : Prop :=
  w.cell? p = some (.string v.n) ∧ w.cell? ⟨p.block, p.off + 1, none⟩ = some (.string v.val)
/-- A slice whose elements are these; all of it lies below block B. -/
def Itms (w : World) (B : Nat) (v : Value) (l : List Itm) : Prop :=
  ∃ A c, v = .slice A l.length c ∧ l.length ≤ c ∧ (A = none → c = 0) ∧ (∀ x ∈ l, okI x) ∧ ∀ k (h : k < l.length), ∃ a : Addr, A = some a ∧ a.block < B ∧ AtI w (a.add (k * 2)) l[k]
theorem AtI.keep {w w' : World} {p : Addr} {v : Itm} (h : AtI w p v) {B : Nat} (hp : p.block < B) (k : ∀ p : Addr, p.block < B → w'.cell? p = w.cell? p) : AtI w' p v :=
  ⟨(k p hp).trans h.1, (k ⟨p.block, p.off + 1, none⟩ hp).trans h.2⟩
theorem Itms.keep {w w' : World} {B : Nat} {v : Value} {l : List Itm} (h : Itms w B v l) (k : ∀ p : Addr, p.block < B → w'.cell? p = w.cell? p) : Itms w' B v l := by
  obtain ⟨A, c, e, e0, ez, eo, f⟩ := h
  refine ⟨A, c, e, e0, ez, eo, fun i hi => ?_⟩
  obtain ⟨a, e1, e2, e3⟩ := f i hi
  exact ⟨a, e1, e2, e3.keep (by rw [add_block]; exact e2) k⟩
theorem Itms.below {w w' : World} {B : Nat} {v : Value} {l : List Itm} (h : Itms w B v l) (k : Below B w w') : Itms w' B v l := h.keep fun _ hp => k.cell hp
theorem Itms.more {w : World} {B B' : Nat} {v : Value} {l : List Itm} (h : Itms w B v l) (k : B ≤ B') : Itms w B' v l := by
  obtain ⟨A, c, e, e0, ez, eo, f⟩ := h
  refine ⟨A, c, e, e0, ez, eo, fun i hi => ?_⟩
  obtain ⟨a, e1, e2, e3⟩ := f i hi
  exact ⟨a, e1, by omega, e3⟩
theorem Itms.on {w w' : World} {v : Value} {l : List Itm} (h : Itms w w.heap.size v l) (k : Q w w') : Itms w' w'.heap.size v l := (h.below k).more k.size
theorem Itms.nil (w : World) (B : Nat) : Itms w B (.slice none 0 0) [] := ⟨none, 0, rfl, Nat.le_refl _, fun _ => rfl, by simp, fun k h => absurd h (by simp)⟩
theorem Itms.okAll {w : World} {B : Nat} {v : Value} {l : List Itm} (h : Itms w B v l) : ∀ x ∈ l, okI x := by
  obtain ⟨A, c, e, e0, ez, eo, f⟩ := h; exact eo
theorem Itms.form {w : World} {B : Nat} {v : Value} {l : List Itm} (h : Itms w B v l) : ∃ A c, v = .slice A l.length c := by
  obtain ⟨A, c, e, -⟩ := h; exact ⟨A, c, e⟩
/-- One of a slice, as it lies in every later world. -/
theorem Itms.pick {w : World} {v : Value} {l : List Itm} (h : Itms w w.heap.size v l) (i : Nat) (hi : i < l.length) :
    ∃ (a : Addr) (c : Nat), v = .slice (some a) l.length c ∧ a.block < w.heap.size ∧ okI l[i] ∧ ∀ d, Q w d → AtI d (a.add (i * 2)) l[i] := by
  obtain ⟨A, c, rfl, -, -, eo, f⟩ := h
  obtain ⟨a, rfl, ha, h1⟩ := f i hi
  exact ⟨a, c, rfl, ha, eo _ (List.getElem_mem hi), fun d q => h1.keep (by rw [add_block]; exact ha) fun _ hp => q.cell hp⟩
theorem cells_itm : Tryz.prog.cellsOf 68 = 2 := by kernel_rfl
theorem open_itm {H : Type} {enc : TypeId × Value → H} {W : World} {b0 : Nat} {v : Value} {d : DataW H} {p : List MemPlace} (hv : Value.okWide Tryz.prog W .any b0 68 v)
    (h : DataW.Trod enc Tryz.prog W 0 (fun _ => true) true 68 v d p) : ∃ x : Itm, v = itm x ∧ okI x := by
  obtain ⟨v0, v1, y0, y1, n, rfl, -, -, h0, h1⟩ := Joins.open_agg2 Tryz.underlying68 (by kernel_rfl) (by kernel_rfl) hv h
  obtain ⟨s0, e0, -, w0⟩ := DataW.trod_string Tryz.underlying9 h0
  obtain ⟨s1, e1, -, w1⟩ := DataW.trod_string Tryz.underlying9 h1
  simp at e0 e1
  subst e0 e1
  exact ⟨⟨s0, s1⟩, rfl, ⟨w0, w1⟩⟩
theorem itm_cellE {H : Type} {enc : TypeId × Value → H} {W : World} {n : Nat} {v : Value} {y : DataW H × List MemPlace}
    (hf : DataW.trod enc Tryz.prog W 0 (fun _ => true) true n 26 [v] = some y) : ∃ l : List Itm, Itms W W.heap.size v l ∧ l.length ≤ maxLen := by
  rcases Deep.open_slice Tryz.underlying26 hf with ⟨hcs, hx⟩ | ⟨a, len', cap', m, n, D, Pl, hcs, _, hl, hm, hmm, hx, hel⟩
  · simp at hcs
    subst hcs
    exact ⟨[], Itms.nil _ _, by simp⟩
  · simp at hcs
    subst hcs
    have each : ∀ i, i < len' → ∃ x : Itm, okI x ∧ AtI W (a.add (i * 2)) x := by
      intro i hi
      obtain ⟨cs', h1, h2⟩ := hel i (by rw [hmm]; simp; omega)
      rw [cells_itm] at h1
      obtain ⟨-, hlen4, hcell⟩ := World.cells?_some h1
      obtain ⟨y0, y1, n', -, -, g0, g1⟩ := trod_struct2 Tryz.underlying68 h2
      obtain ⟨v0, v1, rfl⟩ : ∃ a b, cs' = [a, b] := by
        match cs', hlen4 with
        | [a, b], _ => exact ⟨a, b, rfl⟩
      have c0 : Tryz.prog.cellsOf 9 = 1 := by kernel_rfl
      have c1 : Tryz.prog.cellsOf 9 = 1 := by kernel_rfl
      simp [c0, c1] at g0 g1
      obtain ⟨s0, e0, -, w0⟩ := DataW.trod_string Tryz.underlying9 g0
      obtain ⟨s1, e1, -, w1⟩ := DataW.trod_string Tryz.underlying9 g1
      simp at e0 e1
      subst e0 e1
      refine ⟨⟨s0, s1⟩, ⟨w0, w1⟩, ?_, ?_⟩
      · exact hcell 0 (by omega)
      · exact (congrArg W.cell? (add_pos _ (by omega : 0 < 1)).symm).trans (hcell 1 (by omega))
    obtain ⟨l, hlen, hp⟩ := list_of len' each
    refine ⟨l, ⟨some a, cap', by rw [hlen], by omega, (by simp), ?_, fun k hk => ⟨a, rfl, ?_, (hp k hk).2⟩⟩, by omega⟩
    · intro x hx
      obtain ⟨k, hk, rfl⟩ := List.getElem_of_mem hx
      exact (hp k hk).1
    · have := World.block_lt_of_cell? W _ (hp k hk).2.1
      rw [add_block] at this; exact this
theorem open_itms {H : Type} {enc : TypeId × Value → H} {W : World} {b : Nat} {v : Value} {d : DataW H} {p : List MemPlace} (hv : Value.okWide Tryz.prog W .any b 26 v)
    (h : DataW.Trod enc Tryz.prog W 0 (fun _ => true) true 26 v d p) : ∃ l : List Itm, Itms W W.heap.size v l ∧ l.length ≤ maxLen := by
  obtain ⟨a0, len, cap, rfl⟩ := okWide_slice Tryz.underlying26 hv
  obtain ⟨fuel, hf⟩ := h
  exact itm_cellE (by simpa [Value.cells] using hf)

theorem info_itm : (Tryz.prog.info? 68).map (fun i => (i.zero, i.size, i.bytes)) = some (some (.agg #[.string ⟨#[]⟩, .string ⟨#[]⟩]), 2, 32) := by kernel_rfl
/-- v is a row of the call's own, from block base on, of these. -/
def OwnI (base : Nat) (w : World) (v : Value) (l : List Itm) : Prop := w.ownsRow base 68 2 v l.length (l.flatMap icl)
theorem OwnI.nil (base : Nat) (w : World) : OwnI base w (.slice none 0 0) [] := World.ownsRow_nil w _ _ _
theorem flat_icl (l : List Itm) : (l.flatMap icl).length = l.length * 2 := by
  induction l with
  | nil => rfl
  | cons x r ih => rw [List.flatMap_cons, List.length_append, ih, List.length_cons, show (icl x).length = 2 by rfl]; omega
theorem flat_atitm (l : List Itm) (k : Nat) (h : k < l.length) {j : Nat} (hj : j < 2) : (l.flatMap icl)[k * 2 + j]? = (icl l[k])[j]? := by
  induction l generalizing k with
  | nil => simp at h
  | cons x r ih =>
    rw [List.flatMap_cons]
    cases k with
    | zero => rw [List.getElem?_append_left (by rw [show (icl x).length = 2 by rfl]; omega)]; simp
    | succ k =>
      rw [List.getElem?_append_right (by rw [show (icl x).length = 2 by rfl]; omega), show (k + 1) * 2 + j - (icl x).length = k * 2 + j by rw [show (icl x).length = 2 by rfl]; omega, ih k (by simpa using h)]
      rfl
theorem OwnI.read {base : Nat} {w : World} {v : Value} {l : List Itm} (h : OwnI base w v l) (hl : ∀ x ∈ l, okI x) : Itms w w.heap.size v l := by
  rcases h.2 with ⟨rfl, h0⟩ | ⟨g, cap, cur, rfl, hb, hg, h1, h2, h3, h4⟩
  · rw [List.length_eq_zero_iff.1 h0]; exact Itms.nil _ _
  · refine ⟨_, _, rfl, h1, (by simp), hl, fun k hk => ⟨⟨g, 0, none⟩, rfl, lt_of_block hg, ?_⟩⟩
    have hc : ∀ j, j < 2 → w.cell? ((⟨g, 0, none⟩ : Addr).add (k * 2 + j)) = (icl l[k])[j]? := by
      intro j hj
      have := flat_atitm l k hk hj
      obtain ⟨u, hu⟩ : ∃ u, (icl l[k])[j]? = some u := ⟨_, List.getElem?_eq_getElem (by rw [show (icl l[k]).length = 2 by rfl]; exact hj)⟩
      rw [hu] at this ⊢
      exact World.ownsRow.cells h (g := g) rfl _ _ this
    have ha : ∀ j, 0 < j → (⟨g, 0, none⟩ : Addr).add (k * 2 + j) = ⟨((⟨g, 0, none⟩ : Addr).add (k * 2)).block, ((⟨g, 0, none⟩ : Addr).add (k * 2)).off + j, none⟩ := by
      intro j hj
      rw [add_pos _ (by omega), add_block]
      unfold Addr.add
      split
      · rename_i h0; simp [h0]
      · simp [Nat.add_assoc]
    refine ⟨hc 0 (by omega), ?_⟩
    · rw [← ha 1 (by omega)]; exact hc 1 (by omega)
theorem OwnI.on {base : Nat} {w w' : World} {v : Value} {l : List Itm} (h : OwnI base w v l) (q : Q w w') : OwnI base w' v l := by
  rcases h.2 with ⟨rfl, h0⟩ | ⟨g, cap, cur, rfl, hb, hg, h1, h2, h3, h4⟩
  · exact ⟨h.1, .inl ⟨rfl, h0⟩⟩
  · exact ⟨h.1, .inr ⟨g, cap, cur, rfl, hb, (q.block g (lt_of_block hg)).trans hg, h1, h2, h3, h4⟩⟩
theorem OwnI.low {base b2 : Nat} {w : World} {v : Value} {l : List Itm} (h : OwnI base w v l) (k : b2 ≤ base) : OwnI b2 w v l := by
  rcases h.2 with ⟨rfl, h0⟩ | ⟨g, cap, cur, rfl, hb, r⟩
  · exact ⟨h.1, .inl ⟨rfl, h0⟩⟩
  · exact ⟨h.1, .inr ⟨g, cap, cur, rfl, by omega, r⟩⟩
theorem OwnI.form {base : Nat} {w : World} {v : Value} {l : List Itm} (h : OwnI base w v l) : ∃ A c, v = .slice A l.length c := by
  rcases h.2 with ⟨rfl, h0⟩ | ⟨g, cap, cur, rfl, -⟩
  · exact ⟨none, 0, by rw [h0]⟩
  · exact ⟨_, _, rfl⟩
theorem icl_one (x : Itm) : ∀ u ∈ icl x, u.oneCell' = true := by
  intro u hu
  simp [icl] at hu
  rcases hu with rfl | rfl <;> rfl
theorem flat_oneitm (l : List Itm) : ∀ u ∈ l.flatMap icl, u.oneCell' = true := by
  intro u hu
  obtain ⟨x, -, hx⟩ := List.mem_flatMap.1 hu
  exact icl_one x u hx
theorem OwnI.onto {base k : Nat} {w2 : World} {v2 : Value} {L M : List Itm} (h1 : w2.ownsRow base 68 2 v2 (L.length + k) (L.flatMap icl ++ M.flatMap icl)) (hk : k = M.length) : OwnI base w2 v2 (L ++ M) := by
  subst hk
  unfold OwnI
  rw [List.flatMap_append, List.length_append]
  exact h1
theorem OwnI.grown {base : Nat} {w0 wr w2 : World} {v : Value} {L : List Itm} (hown : OwnI base wr v L) (hbel : Below base w0 wr) (hb : base ≤ wr.heap.size) (h2 : wr.grownBy w2 v.ownBlock) : Below base w0 w2 :=
  hbel.grown h2 hb (fun k hk => (World.ownsRow.lt hown k hk).1)
theorem cells_oneitm (w : World) (x : Itm) (t : TypeId) : ∀ j u, (icl x)[j]? = some u → (w.alloc (.cells (icl x).toArray t)).cell? ((⟨w.heap.size, 0, none⟩ : Addr).add j) = some u := by
  intro j u hj
  obtain ⟨hj2, rfl⟩ := List.getElem?_eq_some_iff.1 hj
  match j, hj2 with
  | 0, _ => simp [Addr.add, icl]
  | 1, _ => simp [Addr.add, icl]
theorem Itms.flat {w : World} {B : Nat} {a : Addr} {n c : Nat} {l : List Itm} (h : Itms w B (.slice (some a) n c) l) : ∀ j u, (l.flatMap icl)[j]? = some u → w.cell? (a.add j) = some u := by
  obtain ⟨A, c', e, -, -, -, f⟩ := h
  injection e with e1 e2 e3
  intro j u hu
  obtain ⟨hj, -⟩ := List.getElem?_eq_some_iff.1 hu
  rw [flat_icl] at hj
  have hk : j / 2 < l.length := by omega
  obtain ⟨a', ea, -, hat⟩ := f (j / 2) hk
  rw [← e1] at ea
  injection ea with ea
  subst ea
  have hj2 : j = j / 2 * 2 + j % 2 := by omega
  rw [hj2, flat_atitm l _ hk (by omega)] at hu
  have hadd : ∀ r, 0 < r → a.add (j / 2 * 2 + r) = ⟨(a.add (j / 2 * 2)).block, (a.add (j / 2 * 2)).off + r, none⟩ := by
    intro r hr
    rw [add_pos _ (by omega), add_block]
    unfold Addr.add
    split
    · simp [*]
    · simp [Nat.add_assoc]
  obtain ⟨c0, c1⟩ := hat
  rw [hj2]
  have hr : j % 2 < 2 := by omega
  match hm : j % 2, hr with
  | 0, _ => rw [hm] at hu; simp [icl] at hu; rw [Nat.add_zero, c0, ← hu]
  | 1, _ => rw [hm] at hu; simp [icl] at hu; rw [hadd 1 (by omega), c1, ← hu]
theorem run_append_itm (w : World) (base B : Nat) (t ty : TypeId) (htt : Tryz.prog.underlying t = some (.slice 68)) (v : Value) (l m : List Itm) {A : Option Addr} {n c : Nat} (h : OwnI base w v l)
    (g : Itms w B (.slice A n c) m) (hb : base ≤ w.heap.size) (hl : l.length + m.length ≤ 4000) :
    ∃ v' w', (Builtin.append_ #[t, t] ty #[v, .slice A n c]).run Tryz.prog w = .ok v' w' ∧ OwnI base w' v' (l ++ m) ∧ w.grownBy w' v.ownBlock := by
  obtain ⟨i0, hi0, hz0, hz1, hz2⟩ := info_parts info_itm
  have hn : n = m.length := by obtain ⟨A', c', e, -⟩ := g; injection e
  subst hn
  cases A with
  | none =>
    have hm : m = [] := by
      obtain ⟨A', c', e, e0, ez, -, -⟩ := g
      injection e with e1 e2 e3
      have := ez e1.symm
      exact List.length_eq_zero_iff.1 (by omega)
    subst hm
    have hc : c = 0 := by
      obtain ⟨A', c', e, e0, ez, -, -⟩ := g
      injection e with e1 e2 e3
      rw [e3]; exact ez e1.symm
    subst hc
    exact ⟨v, w, run_append_owned_none (P := Tryz.prog) (w := w) base t ty 68 i0 2 htt hi0 v _ _ h, by simpa using h, World.grownBy.refl w _⟩
  | some a =>
    obtain ⟨v', w', h1, h2, h3, -⟩ := run_append_own (P := Tryz.prog) w base t ty 68 i0 (.agg #[.string ⟨#[]⟩, .string ⟨#[]⟩]) 2 32 htt hi0 hz0 hz1 hz2 rfl (by decide) v l.length (l.flatMap icl) h a m.length c (m.flatMap icl) (flat_icl m) g.flat (flat_oneitm m) (by unfold maxLen; omega) (by omega) hb
    exact ⟨v', w', h1, OwnI.onto (M := m) h2 rfl, h3⟩
theorem wpList_append_itm {ops : Array Oper} {rest : List Oper} {o : Oper} {a : Act} {Q : Exit → Act → World → Prop} (w : World) (hgd : o.guard = none) (s x : Operand) (t : TypeId)
    (htt : Tryz.prog.underlying t = some (.slice 68)) (ho : o.op = .call { callee := .builtin .append, args := #[s, x], argTypes := #[t, t] })
    (base B : Nat) (v : Value) (l m : List Itm) {A : Option Addr} {n c : Nat} (hs : a.eval s = v) (hx : a.eval x = .slice A n c) (h : OwnI base w v l)
    (g : Itms w B (.slice A n c) m) (hb : base ≤ w.heap.size) (hl : l.length + m.length ≤ 4000)
    (k : ∀ v' w', OwnI base w' v' (l ++ m) → w.grownBy w' v.ownBlock → wpList Tryz.prog ops Q rest (a.put o.dst v') w') : wpList Tryz.prog ops Q (o :: rest) a w := by
  refine wpList_plain hgd fun K hK => ?_
  obtain ⟨v', w', h1, h2, h3⟩ := run_append_itm w base B t o.type htt v l m h g hb hl
  unfold Oper.wp execOp
  simp only [ho, resolve, invoke, builtin, Sem.run_bind, Sem.run_pure, Result.andThen_ok, List.map_toArray, List.map_cons, List.map_nil, hs, hx, h1]
  exact hK _ _ (k v' w' h2 h3)
/-- One more behind a row of the call's own, as a walk meets it ('append(v, x)': x in a box of its own). -/
theorem wpList_snoc_itm {ops : Array Oper} {rest : List Oper} {o : Oper} {a : Act} {Q : Exit → Act → World → Prop} (w : World) (hgd : o.guard = none) (s x : Operand) (t t2 : TypeId)
    (htt : Tryz.prog.underlying t = some (.slice 68)) (ho : o.op = .call { callee := .builtin .append, args := #[s, x], argTypes := #[t, t] })
    (base g : Nat) (v : Value) (l : List Itm) (y : Itm) {c : Nat} (hs : a.eval s = v) (hx : a.eval x = .slice (some ⟨g, 0, none⟩) 1 c) (hgg : ∀ j u, (icl y)[j]? = some u → w.cell? ((⟨g, 0, none⟩ : Addr).add j) = some u) (h : OwnI base w v l)
    (hb : base ≤ w.heap.size) (hl : l.length ≤ 4000)
    (k : ∀ v' w', OwnI base w' v' (l ++ [y]) → w.grownBy w' v.ownBlock → wpList Tryz.prog ops Q rest (a.put o.dst v') w') : wpList Tryz.prog ops Q (o :: rest) a w := by
  refine wpList_plain hgd fun K hK => ?_
  obtain ⟨i0, hi0, hz0, hz1, hz2⟩ := info_parts info_itm
  obtain ⟨v', w', h1, h2, h3, -⟩ := run_append_own (P := Tryz.prog) w base t o.type 68 i0 (.agg #[.string ⟨#[]⟩, .string ⟨#[]⟩]) 2 32 htt hi0 hz0 hz1 hz2 rfl (by decide) v l.length (l.flatMap icl) h ⟨g, 0, none⟩ 1 c (icl y) rfl hgg (icl_one y) (by unfold maxLen; omega) (by omega) hb
  unfold Oper.wp execOp
  simp only [ho, resolve, invoke, builtin, Sem.run_bind, Sem.run_pure, Result.andThen_ok, List.map_toArray, List.map_cons, List.map_nil, hs, hx, h1]
  exact hK _ _ (k v' w' (OwnI.onto (M := [y]) (by simpa using h2) rfl) h3)

/-- cellarer/api.Change, as a value, and as it lies in memory. -/
structure Chg where
  n : ByteArray
  val : ByteArray
  gone : Bool
def chg (v : Chg) : Value := .agg #[.string v.n, .string v.val, .bool v.gone]
def hcl (v : Chg) : List Value := [.string v.n, .string v.val, .bool v.gone]
def okH (v : Chg) : Prop := v.n.size ≤ maxLen ∧ v.val.size ≤ maxLen ∧ True
/-- It lies at p. -/
def AtH (w : World) (p : Addr) (v : Chg) : Prop :=
  w.cell? p = some (.string v.n) ∧ w.cell? ⟨p.block, p.off + 1, none⟩ = some (.string v.val) ∧ w.cell? ⟨p.block, p.off + 2, none⟩ = some (.bool v.gone)
/-- A slice whose elements are these; all of it lies below block B. -/
def Chgs (w : World) (B : Nat) (v : Value) (l : List Chg) : Prop :=
  ∃ A c, v = .slice A l.length c ∧ l.length ≤ c ∧ (A = none → c = 0) ∧ (∀ x ∈ l, okH x) ∧ ∀ k (h : k < l.length), ∃ a : Addr, A = some a ∧ a.block < B ∧ AtH w (a.add (k * 3)) l[k]
theorem AtH.keep {w w' : World} {p : Addr} {v : Chg} (h : AtH w p v) {B : Nat} (hp : p.block < B) (k : ∀ p : Addr, p.block < B → w'.cell? p = w.cell? p) : AtH w' p v :=
  ⟨(k p hp).trans h.1, (k ⟨p.block, p.off + 1, none⟩ hp).trans h.2.1, (k ⟨p.block, p.off + 2, none⟩ hp).trans h.2.2⟩
theorem Chgs.keep {w w' : World} {B : Nat} {v : Value} {l : List Chg} (h : Chgs w B v l) (k : ∀ p : Addr, p.block < B → w'.cell? p = w.cell? p) : Chgs w' B v l := by
  obtain ⟨A, c, e, e0, ez, eo, f⟩ := h
  refine ⟨A, c, e, e0, ez, eo, fun i hi => ?_⟩
  obtain ⟨a, e1, e2, e3⟩ := f i hi
  exact ⟨a, e1, e2, e3.keep (by rw [add_block]; exact e2) k⟩
theorem Chgs.below {w w' : World} {B : Nat} {v : Value} {l : List Chg} (h : Chgs w B v l) (k : Below B w w') : Chgs w' B v l := h.keep fun _ hp => k.cell hp
theorem Chgs.more {w : World} {B B' : Nat} {v : Value} {l : List Chg} (h : Chgs w B v l) (k : B ≤ B') : Chgs w B' v l := by
  obtain ⟨A, c, e, e0, ez, eo, f⟩ := h
  refine ⟨A, c, e, e0, ez, eo, fun i hi => ?_⟩
  obtain ⟨a, e1, e2, e3⟩ := f i hi
  exact ⟨a, e1, by omega, e3⟩
theorem Chgs.on {w w' : World} {v : Value} {l : List Chg} (h : Chgs w w.heap.size v l) (k : Q w w') : Chgs w' w'.heap.size v l := (h.below k).more k.size
theorem Chgs.nil (w : World) (B : Nat) : Chgs w B (.slice none 0 0) [] := ⟨none, 0, rfl, Nat.le_refl _, fun _ => rfl, by simp, fun k h => absurd h (by simp)⟩
theorem Chgs.okAll {w : World} {B : Nat} {v : Value} {l : List Chg} (h : Chgs w B v l) : ∀ x ∈ l, okH x := by
  obtain ⟨A, c, e, e0, ez, eo, f⟩ := h; exact eo
theorem Chgs.form {w : World} {B : Nat} {v : Value} {l : List Chg} (h : Chgs w B v l) : ∃ A c, v = .slice A l.length c := by
  obtain ⟨A, c, e, -⟩ := h; exact ⟨A, c, e⟩
/-- One of a slice, as it lies in every later world. -/
theorem Chgs.pick {w : World} {v : Value} {l : List Chg} (h : Chgs w w.heap.size v l) (i : Nat) (hi : i < l.length) :
    ∃ (a : Addr) (c : Nat), v = .slice (some a) l.length c ∧ a.block < w.heap.size ∧ okH l[i] ∧ ∀ d, Q w d → AtH d (a.add (i * 3)) l[i] := by
  obtain ⟨A, c, rfl, -, -, eo, f⟩ := h
  obtain ⟨a, rfl, ha, h1⟩ := f i hi
  exact ⟨a, c, rfl, ha, eo _ (List.getElem_mem hi), fun d q => h1.keep (by rw [add_block]; exact ha) fun _ hp => q.cell hp⟩
theorem cells_chg : Tryz.prog.cellsOf 72 = 3 := by kernel_rfl
theorem open_chg {H : Type} {enc : TypeId × Value → H} {W : World} {b0 : Nat} {v : Value} {d : DataW H} {p : List MemPlace} (hv : Value.okWide Tryz.prog W .any b0 72 v)
    (h : DataW.Trod enc Tryz.prog W 0 (fun _ => true) true 72 v d p) : ∃ x : Chg, v = chg x ∧ okH x := by
  obtain ⟨v0, v1, v2, y0, y1, y2, n, rfl, -, -, h0, h1, h2⟩ := Joins.open_agg3 Tryz.underlying72 (by kernel_rfl) (by kernel_rfl) hv h
  obtain ⟨s0, e0, -, w0⟩ := DataW.trod_string Tryz.underlying9 h0
  obtain ⟨s1, e1, -, w1⟩ := DataW.trod_string Tryz.underlying9 h1
  obtain ⟨s2, e2, -⟩ := DataW.trod_bool Tryz.underlying4 h2
  simp at e0 e1 e2
  subst e0 e1 e2
  exact ⟨⟨s0, s1, s2⟩, rfl, ⟨w0, w1, trivial⟩⟩
theorem chg_cellE {H : Type} {enc : TypeId × Value → H} {W : World} {n : Nat} {v : Value} {y : DataW H × List MemPlace}
    (hf : DataW.trod enc Tryz.prog W 0 (fun _ => true) true n 40 [v] = some y) : ∃ l : List Chg, Chgs W W.heap.size v l ∧ l.length ≤ maxLen := by
  rcases Deep.open_slice Tryz.underlying40 hf with ⟨hcs, hx⟩ | ⟨a, len', cap', m, n, D, Pl, hcs, _, hl, hm, hmm, hx, hel⟩
  · simp at hcs
    subst hcs
    exact ⟨[], Chgs.nil _ _, by simp⟩
  · simp at hcs
    subst hcs
    have each : ∀ i, i < len' → ∃ x : Chg, okH x ∧ AtH W (a.add (i * 3)) x := by
      intro i hi
      obtain ⟨cs', h1, h2⟩ := hel i (by rw [hmm]; simp; omega)
      rw [cells_chg] at h1
      obtain ⟨-, hlen4, hcell⟩ := World.cells?_some h1
      obtain ⟨y0, y1, y2, n', -, -, g0, g1, g2⟩ := Deep.trod_struct3 Tryz.underlying72 h2
      obtain ⟨v0, v1, v2, rfl⟩ : ∃ a b c, cs' = [a, b, c] := by
        match cs', hlen4 with
        | [a, b, c], _ => exact ⟨a, b, c, rfl⟩
      have c0 : Tryz.prog.cellsOf 9 = 1 := by kernel_rfl
      have c1 : Tryz.prog.cellsOf 9 = 1 := by kernel_rfl
      have c2 : Tryz.prog.cellsOf 4 = 1 := by kernel_rfl
      simp [c0, c1, c2] at g0 g1 g2
      obtain ⟨s0, e0, -, w0⟩ := DataW.trod_string Tryz.underlying9 g0
      obtain ⟨s1, e1, -, w1⟩ := DataW.trod_string Tryz.underlying9 g1
      obtain ⟨s2, e2, -⟩ := DataW.trod_bool Tryz.underlying4 g2
      simp at e0 e1 e2
      subst e0 e1 e2
      refine ⟨⟨s0, s1, s2⟩, ⟨w0, w1, trivial⟩, ?_, ?_, ?_⟩
      · exact hcell 0 (by omega)
      · exact (congrArg W.cell? (add_pos _ (by omega : 0 < 1)).symm).trans (hcell 1 (by omega))
      · exact (congrArg W.cell? (add_pos _ (by omega : 0 < 2)).symm).trans (hcell 2 (by omega))
    obtain ⟨l, hlen, hp⟩ := list_of len' each
    refine ⟨l, ⟨some a, cap', by rw [hlen], by omega, (by simp), ?_, fun k hk => ⟨a, rfl, ?_, (hp k hk).2⟩⟩, by omega⟩
    · intro x hx
      obtain ⟨k, hk, rfl⟩ := List.getElem_of_mem hx
      exact (hp k hk).1
    · have := World.block_lt_of_cell? W _ (hp k hk).2.1
      rw [add_block] at this; exact this
theorem open_chgs {H : Type} {enc : TypeId × Value → H} {W : World} {b : Nat} {v : Value} {d : DataW H} {p : List MemPlace} (hv : Value.okWide Tryz.prog W .any b 40 v)
    (h : DataW.Trod enc Tryz.prog W 0 (fun _ => true) true 40 v d p) : ∃ l : List Chg, Chgs W W.heap.size v l ∧ l.length ≤ maxLen := by
  obtain ⟨a0, len, cap, rfl⟩ := okWide_slice Tryz.underlying40 hv
  obtain ⟨fuel, hf⟩ := h
  exact chg_cellE (by simpa [Value.cells] using hf)

theorem info_chg : (Tryz.prog.info? 72).map (fun i => (i.zero, i.size, i.bytes)) = some (some (.agg #[.string ⟨#[]⟩, .string ⟨#[]⟩, .bool false]), 3, 40) := by kernel_rfl
/-- v is a row of the call's own, from block base on, of these. -/
def OwnH (base : Nat) (w : World) (v : Value) (l : List Chg) : Prop := w.ownsRow base 72 3 v l.length (l.flatMap hcl)
theorem OwnH.nil (base : Nat) (w : World) : OwnH base w (.slice none 0 0) [] := World.ownsRow_nil w _ _ _
theorem flat_hcl (l : List Chg) : (l.flatMap hcl).length = l.length * 3 := by
  induction l with
  | nil => rfl
  | cons x r ih => rw [List.flatMap_cons, List.length_append, ih, List.length_cons, show (hcl x).length = 3 by rfl]; omega
theorem flat_atchg (l : List Chg) (k : Nat) (h : k < l.length) {j : Nat} (hj : j < 3) : (l.flatMap hcl)[k * 3 + j]? = (hcl l[k])[j]? := by
  induction l generalizing k with
  | nil => simp at h
  | cons x r ih =>
    rw [List.flatMap_cons]
    cases k with
    | zero => rw [List.getElem?_append_left (by rw [show (hcl x).length = 3 by rfl]; omega)]; simp
    | succ k =>
      rw [List.getElem?_append_right (by rw [show (hcl x).length = 3 by rfl]; omega), show (k + 1) * 3 + j - (hcl x).length = k * 3 + j by rw [show (hcl x).length = 3 by rfl]; omega, ih k (by simpa using h)]
      rfl
theorem OwnH.read {base : Nat} {w : World} {v : Value} {l : List Chg} (h : OwnH base w v l) (hl : ∀ x ∈ l, okH x) : Chgs w w.heap.size v l := by
  rcases h.2 with ⟨rfl, h0⟩ | ⟨g, cap, cur, rfl, hb, hg, h1, h2, h3, h4⟩
  · rw [List.length_eq_zero_iff.1 h0]; exact Chgs.nil _ _
  · refine ⟨_, _, rfl, h1, (by simp), hl, fun k hk => ⟨⟨g, 0, none⟩, rfl, lt_of_block hg, ?_⟩⟩
    have hc : ∀ j, j < 3 → w.cell? ((⟨g, 0, none⟩ : Addr).add (k * 3 + j)) = (hcl l[k])[j]? := by
      intro j hj
      have := flat_atchg l k hk hj
      obtain ⟨u, hu⟩ : ∃ u, (hcl l[k])[j]? = some u := ⟨_, List.getElem?_eq_getElem (by rw [show (hcl l[k]).length = 3 by rfl]; exact hj)⟩
      rw [hu] at this ⊢
      exact World.ownsRow.cells h (g := g) rfl _ _ this
    have ha : ∀ j, 0 < j → (⟨g, 0, none⟩ : Addr).add (k * 3 + j) = ⟨((⟨g, 0, none⟩ : Addr).add (k * 3)).block, ((⟨g, 0, none⟩ : Addr).add (k * 3)).off + j, none⟩ := by
      intro j hj
      rw [add_pos _ (by omega), add_block]
      unfold Addr.add
      split
      · rename_i h0; simp [h0]
      · simp [Nat.add_assoc]
    refine ⟨hc 0 (by omega), ?_, ?_⟩
    · rw [← ha 1 (by omega)]; exact hc 1 (by omega)
    · rw [← ha 2 (by omega)]; exact hc 2 (by omega)
theorem OwnH.on {base : Nat} {w w' : World} {v : Value} {l : List Chg} (h : OwnH base w v l) (q : Q w w') : OwnH base w' v l := by
  rcases h.2 with ⟨rfl, h0⟩ | ⟨g, cap, cur, rfl, hb, hg, h1, h2, h3, h4⟩
  · exact ⟨h.1, .inl ⟨rfl, h0⟩⟩
  · exact ⟨h.1, .inr ⟨g, cap, cur, rfl, hb, (q.block g (lt_of_block hg)).trans hg, h1, h2, h3, h4⟩⟩
theorem OwnH.low {base b2 : Nat} {w : World} {v : Value} {l : List Chg} (h : OwnH base w v l) (k : b2 ≤ base) : OwnH b2 w v l := by
  rcases h.2 with ⟨rfl, h0⟩ | ⟨g, cap, cur, rfl, hb, r⟩
  · exact ⟨h.1, .inl ⟨rfl, h0⟩⟩
  · exact ⟨h.1, .inr ⟨g, cap, cur, rfl, by omega, r⟩⟩
theorem OwnH.form {base : Nat} {w : World} {v : Value} {l : List Chg} (h : OwnH base w v l) : ∃ A c, v = .slice A l.length c := by
  rcases h.2 with ⟨rfl, h0⟩ | ⟨g, cap, cur, rfl, -⟩
  · exact ⟨none, 0, by rw [h0]⟩
  · exact ⟨_, _, rfl⟩
theorem hcl_one (x : Chg) : ∀ u ∈ hcl x, u.oneCell' = true := by
  intro u hu
  simp [hcl] at hu
  rcases hu with rfl | rfl | rfl <;> rfl
theorem flat_onechg (l : List Chg) : ∀ u ∈ l.flatMap hcl, u.oneCell' = true := by
  intro u hu
  obtain ⟨x, -, hx⟩ := List.mem_flatMap.1 hu
  exact hcl_one x u hx
theorem OwnH.onto {base k : Nat} {w2 : World} {v2 : Value} {L M : List Chg} (h1 : w2.ownsRow base 72 3 v2 (L.length + k) (L.flatMap hcl ++ M.flatMap hcl)) (hk : k = M.length) : OwnH base w2 v2 (L ++ M) := by
  subst hk
  unfold OwnH
  rw [List.flatMap_append, List.length_append]
  exact h1
theorem OwnH.grown {base : Nat} {w0 wr w2 : World} {v : Value} {L : List Chg} (hown : OwnH base wr v L) (hbel : Below base w0 wr) (hb : base ≤ wr.heap.size) (h2 : wr.grownBy w2 v.ownBlock) : Below base w0 w2 :=
  hbel.grown h2 hb (fun k hk => (World.ownsRow.lt hown k hk).1)
theorem cells_onechg (w : World) (x : Chg) (t : TypeId) : ∀ j u, (hcl x)[j]? = some u → (w.alloc (.cells (hcl x).toArray t)).cell? ((⟨w.heap.size, 0, none⟩ : Addr).add j) = some u := by
  intro j u hj
  obtain ⟨hj2, rfl⟩ := List.getElem?_eq_some_iff.1 hj
  match j, hj2 with
  | 0, _ => simp [Addr.add, hcl]
  | 1, _ => simp [Addr.add, hcl]
  | 2, _ => simp [Addr.add, hcl]
theorem Chgs.flat {w : World} {B : Nat} {a : Addr} {n c : Nat} {l : List Chg} (h : Chgs w B (.slice (some a) n c) l) : ∀ j u, (l.flatMap hcl)[j]? = some u → w.cell? (a.add j) = some u := by
  obtain ⟨A, c', e, -, -, -, f⟩ := h
  injection e with e1 e2 e3
  intro j u hu
  obtain ⟨hj, -⟩ := List.getElem?_eq_some_iff.1 hu
  rw [flat_hcl] at hj
  have hk : j / 3 < l.length := by omega
  obtain ⟨a', ea, -, hat⟩ := f (j / 3) hk
  rw [← e1] at ea
  injection ea with ea
  subst ea
  have hj2 : j = j / 3 * 3 + j % 3 := by omega
  rw [hj2, flat_atchg l _ hk (by omega)] at hu
  have hadd : ∀ r, 0 < r → a.add (j / 3 * 3 + r) = ⟨(a.add (j / 3 * 3)).block, (a.add (j / 3 * 3)).off + r, none⟩ := by
    intro r hr
    rw [add_pos _ (by omega), add_block]
    unfold Addr.add
    split
    · simp [*]
    · simp [Nat.add_assoc]
  obtain ⟨c0, c1, c2⟩ := hat
  rw [hj2]
  have hr : j % 3 < 3 := by omega
  match hm : j % 3, hr with
  | 0, _ => rw [hm] at hu; simp [hcl] at hu; rw [Nat.add_zero, c0, ← hu]
  | 1, _ => rw [hm] at hu; simp [hcl] at hu; rw [hadd 1 (by omega), c1, ← hu]
  | 2, _ => rw [hm] at hu; simp [hcl] at hu; rw [hadd 2 (by omega), c2, ← hu]
theorem run_append_chg (w : World) (base B : Nat) (t ty : TypeId) (htt : Tryz.prog.underlying t = some (.slice 72)) (v : Value) (l m : List Chg) {A : Option Addr} {n c : Nat} (h : OwnH base w v l)
    (g : Chgs w B (.slice A n c) m) (hb : base ≤ w.heap.size) (hl : l.length + m.length ≤ 4000) :
    ∃ v' w', (Builtin.append_ #[t, t] ty #[v, .slice A n c]).run Tryz.prog w = .ok v' w' ∧ OwnH base w' v' (l ++ m) ∧ w.grownBy w' v.ownBlock := by
  obtain ⟨i0, hi0, hz0, hz1, hz2⟩ := info_parts info_chg
  have hn : n = m.length := by obtain ⟨A', c', e, -⟩ := g; injection e
  subst hn
  cases A with
  | none =>
    have hm : m = [] := by
      obtain ⟨A', c', e, e0, ez, -, -⟩ := g
      injection e with e1 e2 e3
      have := ez e1.symm
      exact List.length_eq_zero_iff.1 (by omega)
    subst hm
    have hc : c = 0 := by
      obtain ⟨A', c', e, e0, ez, -, -⟩ := g
      injection e with e1 e2 e3
      rw [e3]; exact ez e1.symm
    subst hc
    exact ⟨v, w, run_append_owned_none (P := Tryz.prog) (w := w) base t ty 72 i0 3 htt hi0 v _ _ h, by simpa using h, World.grownBy.refl w _⟩
  | some a =>
    obtain ⟨v', w', h1, h2, h3, -⟩ := run_append_own (P := Tryz.prog) w base t ty 72 i0 (.agg #[.string ⟨#[]⟩, .string ⟨#[]⟩, .bool false]) 3 40 htt hi0 hz0 hz1 hz2 rfl (by decide) v l.length (l.flatMap hcl) h a m.length c (m.flatMap hcl) (flat_hcl m) g.flat (flat_onechg m) (by unfold maxLen; omega) (by omega) hb
    exact ⟨v', w', h1, OwnH.onto (M := m) h2 rfl, h3⟩
theorem wpList_append_chg {ops : Array Oper} {rest : List Oper} {o : Oper} {a : Act} {Q : Exit → Act → World → Prop} (w : World) (hgd : o.guard = none) (s x : Operand) (t : TypeId)
    (htt : Tryz.prog.underlying t = some (.slice 72)) (ho : o.op = .call { callee := .builtin .append, args := #[s, x], argTypes := #[t, t] })
    (base B : Nat) (v : Value) (l m : List Chg) {A : Option Addr} {n c : Nat} (hs : a.eval s = v) (hx : a.eval x = .slice A n c) (h : OwnH base w v l)
    (g : Chgs w B (.slice A n c) m) (hb : base ≤ w.heap.size) (hl : l.length + m.length ≤ 4000)
    (k : ∀ v' w', OwnH base w' v' (l ++ m) → w.grownBy w' v.ownBlock → wpList Tryz.prog ops Q rest (a.put o.dst v') w') : wpList Tryz.prog ops Q (o :: rest) a w := by
  refine wpList_plain hgd fun K hK => ?_
  obtain ⟨v', w', h1, h2, h3⟩ := run_append_chg w base B t o.type htt v l m h g hb hl
  unfold Oper.wp execOp
  simp only [ho, resolve, invoke, builtin, Sem.run_bind, Sem.run_pure, Result.andThen_ok, List.map_toArray, List.map_cons, List.map_nil, hs, hx, h1]
  exact hK _ _ (k v' w' h2 h3)
/-- One more behind a row of the call's own, as a walk meets it ('append(v, x)': x in a box of its own). -/
theorem wpList_snoc_chg {ops : Array Oper} {rest : List Oper} {o : Oper} {a : Act} {Q : Exit → Act → World → Prop} (w : World) (hgd : o.guard = none) (s x : Operand) (t t2 : TypeId)
    (htt : Tryz.prog.underlying t = some (.slice 72)) (ho : o.op = .call { callee := .builtin .append, args := #[s, x], argTypes := #[t, t] })
    (base g : Nat) (v : Value) (l : List Chg) (y : Chg) {c : Nat} (hs : a.eval s = v) (hx : a.eval x = .slice (some ⟨g, 0, none⟩) 1 c) (hgg : ∀ j u, (hcl y)[j]? = some u → w.cell? ((⟨g, 0, none⟩ : Addr).add j) = some u) (h : OwnH base w v l)
    (hb : base ≤ w.heap.size) (hl : l.length ≤ 4000)
    (k : ∀ v' w', OwnH base w' v' (l ++ [y]) → w.grownBy w' v.ownBlock → wpList Tryz.prog ops Q rest (a.put o.dst v') w') : wpList Tryz.prog ops Q (o :: rest) a w := by
  refine wpList_plain hgd fun K hK => ?_
  obtain ⟨i0, hi0, hz0, hz1, hz2⟩ := info_parts info_chg
  obtain ⟨v', w', h1, h2, h3, -⟩ := run_append_own (P := Tryz.prog) w base t o.type 72 i0 (.agg #[.string ⟨#[]⟩, .string ⟨#[]⟩, .bool false]) 3 40 htt hi0 hz0 hz1 hz2 rfl (by decide) v l.length (l.flatMap hcl) h ⟨g, 0, none⟩ 1 c (hcl y) rfl hgg (hcl_one y) (by unfold maxLen; omega) (by omega) hb
  unfold Oper.wp execOp
  simp only [ho, resolve, invoke, builtin, Sem.run_bind, Sem.run_pure, Result.andThen_ok, List.map_toArray, List.map_cons, List.map_nil, hs, hx, h1]
  exact hK _ _ (k v' w' (OwnH.onto (M := [y]) (by simpa using h2) rfl) h3)
end Go.Proofs.YtbilnomafloopaaGreat
