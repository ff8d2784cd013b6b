/-
  Parts and pieces: as values, as cells, as slices that are read, as rows that a call makes.
-/
import Derived.Test.YtlahccmlnbdekaaVSame
import Derived.Lib.AppendZerosOnto
import Derived.Lib.SliceRun
import Derived.Laws.AppendOwnNone
namespace Go.Proofs.Ytlahccmlnbdekaa
open Go.ChangeShapes Go.WideShapes Go.ChangeAt Go.RowKit
set_option linter.unusedVariables false
set_option linter.unusedSimpArgs false
set_option maxRecDepth 100000

theorem wfu32 {a : Int} (h : (Lit.int .u32 a).wf = true) : ∃ n : Nat, a = n ∧ n < 4294967296 := by
  have h2 : 0 ≤ a ∧ a ≤ 4294967295 := by simpa [Lit.wf, IntKind.min, IntKind.max, IntKind.signed, IntKind.bits] using h
  exact ⟨a.toNat, by omega, by omega⟩

/-- cellarer/api.Part, as a value, and as it lies in memory. -/
structure Prt where
  n : Int
  data : ByteArray
def prt (v : Prt) : Value := .agg #[.int .i64 v.n, .string v.data]
def pcl (v : Prt) : List Value := [.int .i64 v.n, .string v.data]
def okP (v : Prt) : Prop := -9223372036854775808 ≤ v.n ∧ v.n ≤ 9223372036854775807 ∧ v.data.size ≤ maxLen
/-- It lies at p. -/
def AtP (w : World) (p : Addr) (v : Prt) : Prop :=
  w.cell? p = some (.int .i64 v.n) ∧ w.cell? ⟨p.block, p.off + 1, none⟩ = some (.string v.data)
/-- A slice whose elements are these; all of it lies below block B. -/
def Prts (w : World) (B : Nat) (v : Value) (l : List Prt) : Prop :=
  ∃ A c, v = .slice A l.length c ∧ l.length ≤ c ∧ (A = none → c = 0) ∧ (∀ x ∈ l, okP x) ∧ ∀ k (h : k < l.length), ∃ a : Addr, A = some a ∧ a.block < B ∧ AtP w (a.add (k * 2)) l[k]
theorem AtP.keep {w w' : World} {p : Addr} {v : Prt} (h : AtP w p v) {B : Nat} (hp : p.block < B) (k : ∀ p : Addr, p.block < B → w'.cell? p = w.cell? p) : AtP w' p v :=
  ⟨(k p hp).trans h.1, (k ⟨p.block, p.off + 1, none⟩ hp).trans h.2⟩
theorem Prts.keep {w w' : World} {B : Nat} {v : Value} {l : List Prt} (h : Prts w B v l) (k : ∀ p : Addr, p.block < B → w'.cell? p = w.cell? p) : Prts w' B v l := by
  obtain ⟨A, c, e, e0, ez, eo, f⟩ := h
  refine ⟨A, c, e, e0, ez, eo, fun i hi => ?_⟩
  obtain ⟨a, e1, e2, e3⟩ := f i hi
  exact ⟨a, e1, e2, e3.keep (by rw [add_block]; exact e2) k⟩
theorem Prts.below {w w' : World} {B : Nat} {v : Value} {l : List Prt} (h : Prts w B v l) (k : Below B w w') : Prts w' B v l := h.keep fun _ hp => k.cell hp
theorem Prts.more {w : World} {B B' : Nat} {v : Value} {l : List Prt} (h : Prts w B v l) (k : B ≤ B') : Prts w B' v l := by
  obtain ⟨A, c, e, e0, ez, eo, f⟩ := h
  refine ⟨A, c, e, e0, ez, eo, fun i hi => ?_⟩
  obtain ⟨a, e1, e2, e3⟩ := f i hi
  exact ⟨a, e1, by omega, e3⟩
theorem Prts.on {w w' : World} {v : Value} {l : List Prt} (h : Prts w w.heap.size v l) (k : Q w w') : Prts w' w'.heap.size v l := (h.below k).more k.size
theorem Prts.nil (w : World) (B : Nat) : Prts w B (.slice none 0 0) [] := ⟨none, 0, rfl, Nat.le_refl _, fun _ => rfl, by simp, fun k h => absurd h (by simp)⟩
theorem Prts.okAll {w : World} {B : Nat} {v : Value} {l : List Prt} (h : Prts w B v l) : ∀ x ∈ l, okP x := by
  obtain ⟨A, c, e, e0, ez, eo, f⟩ := h; exact eo
theorem Prts.form {w : World} {B : Nat} {v : Value} {l : List Prt} (h : Prts w B v l) : ∃ A c, v = .slice A l.length c := by
  obtain ⟨A, c, e, -⟩ := h; exact ⟨A, c, e⟩
/-- One of a slice, as it lies in every later world. -/
theorem Prts.pick {w : World} {v : Value} {l : List Prt} (h : Prts w w.heap.size v l) (i : Nat) (hi : i < l.length) :
    ∃ (a : Addr) (c : Nat), v = .slice (some a) l.length c ∧ a.block < w.heap.size ∧ okP l[i] ∧ ∀ d, Q w d → AtP d (a.add (i * 2)) l[i] := by
  obtain ⟨A, c, rfl, -, -, eo, f⟩ := h
  obtain ⟨a, rfl, ha, h1⟩ := f i hi
  exact ⟨a, c, rfl, ha, eo _ (List.getElem_mem hi), fun d q => h1.keep (by rw [add_block]; exact ha) fun _ hp => q.cell hp⟩
theorem cells_part : Try.prog.cellsOf 25 = 2 := by kernel_rfl
theorem open_part {H : Type} {enc : TypeId × Value → H} {W : World} {b0 : Nat} {v : Value} {d : DataW H} {p : List MemPlace} (hv : Value.okWide Try.prog W .any b0 25 v)
    (h : DataW.Trod enc Try.prog W 0 (fun _ => true) true 25 v d p) : ∃ x : Prt, v = prt x ∧ okP x := by
  obtain ⟨v0, v1, y0, y1, n, rfl, -, -, h0, h1⟩ := Joins.open_agg2 Try.underlying25 (by kernel_rfl) (by kernel_rfl) hv h
  obtain ⟨s0, e0, -, w0⟩ := DataW.trod_int Try.underlying3 h0
  obtain ⟨s1, e1, -, w1⟩ := DataW.trod_string Try.underlying9 h1
  simp at e0 e1
  subst e0 e1
  exact ⟨⟨s0, s1⟩, rfl, ⟨(wf64 w0).1, (wf64 w0).2, w1⟩⟩
theorem part_cellE {H : Type} {enc : TypeId × Value → H} {W : World} {n : Nat} {v : Value} {y : DataW H × List MemPlace}
    (hf : DataW.trod enc Try.prog W 0 (fun _ => true) true n 38 [v] = some y) : ∃ l : List Prt, Prts W W.heap.size v l ∧ l.length ≤ maxLen := by
  rcases Deep.open_slice Try.underlying38 hf with ⟨hcs, hx⟩ | ⟨a, len', cap', m, n, D, Pl, hcs, _, hl, hm, hmm, hx, hel⟩
  · simp at hcs
    subst hcs
    exact ⟨[], Prts.nil _ _, by simp⟩
  · simp at hcs
    subst hcs
    have each : ∀ i, i < len' → ∃ x : Prt, okP x ∧ AtP W (a.add (i * 2)) x := by
      intro i hi
      obtain ⟨cs', h1, h2⟩ := hel i (by rw [hmm]; simp; omega)
      rw [cells_part] at h1
      obtain ⟨-, hlen4, hcell⟩ := World.cells?_some h1
      obtain ⟨y0, y1, n', -, -, g0, g1⟩ := trod_struct2 Try.underlying25 h2
      obtain ⟨v0, v1, rfl⟩ : ∃ a b, cs' = [a, b] := by
        match cs', hlen4 with
        | [a, b], _ => exact ⟨a, b, rfl⟩
      have c0 : Try.prog.cellsOf 3 = 1 := by kernel_rfl
      have c1 : Try.prog.cellsOf 9 = 1 := by kernel_rfl
      simp [c0, c1] at g0 g1
      obtain ⟨s0, e0, -, w0⟩ := DataW.trod_int Try.underlying3 g0
      obtain ⟨s1, e1, -, w1⟩ := DataW.trod_string Try.underlying9 g1
      simp at e0 e1
      subst e0 e1
      refine ⟨⟨s0, s1⟩, ⟨(wf64 w0).1, (wf64 w0).2, w1⟩, ?_, ?_⟩
      · exact hcell 0 (by omega)
      · exact (congrArg W.cell? (add_pos _ (by omega : 0 < 1)).symm).trans (hcell 1 (by omega))
    obtain ⟨l, hlen, hp⟩ := list_of len' each
    refine ⟨l, ⟨some a, cap', by rw [hlen], by omega, (by simp), ?_, fun k hk => ⟨a, rfl, ?_, (hp k hk).2⟩⟩, by omega⟩
    · intro x hx
      obtain ⟨k, hk, rfl⟩ := List.getElem_of_mem hx
      exact (hp k hk).1
    · have := World.block_lt_of_cell? W _ (hp k hk).2.1
      rw [add_block] at this; exact this
theorem open_parts {H : Type} {enc : TypeId × Value → H} {W : World} {b : Nat} {v : Value} {d : DataW H} {p : List MemPlace} (hv : Value.okWide Try.prog W .any b 38 v)
    (h : DataW.Trod enc Try.prog W 0 (fun _ => true) true 38 v d p) : ∃ l : List Prt, Prts W W.heap.size v l ∧ l.length ≤ maxLen := by
  obtain ⟨a0, len, cap, rfl⟩ := okWide_slice Try.underlying38 hv
  obtain ⟨fuel, hf⟩ := h
  exact part_cellE (by simpa [Value.cells] using hf)

theorem info_part : (Try.prog.info? 25).map (fun i => (i.zero, i.size, i.bytes)) = some (some (.agg #[.int .i64 0, .string ⟨#[]⟩]), 2, 24) := by kernel_rfl
/-- v is a row of the call's own, from block base on, of these. -/
def OwnP (base : Nat) (w : World) (v : Value) (l : List Prt) : Prop := w.ownsRow base 25 2 v l.length (l.flatMap pcl)
theorem OwnP.nil (base : Nat) (w : World) : OwnP base w (.slice none 0 0) [] := World.ownsRow_nil w _ _ _
theorem flat_pcl (l : List Prt) : (l.flatMap pcl).length = l.length * 2 := by
  induction l with
  | nil => rfl
  | cons x r ih => rw [List.flatMap_cons, List.length_append, ih, List.length_cons, show (pcl x).length = 2 by rfl]; omega
theorem flat_atpart (l : List Prt) (k : Nat) (h : k < l.length) {j : Nat} (hj : j < 2) : (l.flatMap pcl)[k * 2 + j]? = (pcl l[k])[j]? := by
  induction l generalizing k with
  | nil => simp at h
  | cons x r ih =>
    rw [List.flatMap_cons]
    cases k with
    | zero => rw [List.getElem?_append_left (by rw [show (pcl x).length = 2 by rfl]; omega)]; simp
    | succ k =>
      rw [List.getElem?_append_right (by rw [show (pcl x).length = 2 by rfl]; omega), show (k + 1) * 2 + j - (pcl x).length = k * 2 + j by rw [show (pcl x).length = 2 by rfl]; omega, ih k (by simpa using h)]
      rfl
theorem OwnP.read {base : Nat} {w : World} {v : Value} {l : List Prt} (h : OwnP base w v l) (hl : ∀ x ∈ l, okP x) : Prts w w.heap.size v l := by
  rcases h.2 with ⟨rfl, h0⟩ | ⟨g, cap, cur, rfl, hb, hg, h1, h2, h3, h4⟩
  · rw [List.length_eq_zero_iff.1 h0]; exact Prts.nil _ _
  · refine ⟨_, _, rfl, h1, (by simp), hl, fun k hk => ⟨⟨g, 0, none⟩, rfl, lt_of_block hg, ?_⟩⟩
    have hc : ∀ j, j < 2 → w.cell? ((⟨g, 0, none⟩ : Addr).add (k * 2 + j)) = (pcl l[k])[j]? := by
      intro j hj
      have := flat_atpart l k hk hj
      obtain ⟨u, hu⟩ : ∃ u, (pcl l[k])[j]? = some u := ⟨_, List.getElem?_eq_getElem (by rw [show (pcl l[k]).length = 2 by rfl]; exact hj)⟩
      rw [hu] at this ⊢
      exact World.ownsRow.cells h (g := g) rfl _ _ this
    have ha : ∀ j, 0 < j → (⟨g, 0, none⟩ : Addr).add (k * 2 + j) = ⟨((⟨g, 0, none⟩ : Addr).add (k * 2)).block, ((⟨g, 0, none⟩ : Addr).add (k * 2)).off + j, none⟩ := by
      intro j hj
      rw [add_pos _ (by omega), add_block]
      unfold Addr.add
      split
      · rename_i h0; simp [h0]
      · simp [Nat.add_assoc]
    refine ⟨hc 0 (by omega), ?_⟩
    · rw [← ha 1 (by omega)]; exact hc 1 (by omega)
theorem OwnP.on {base : Nat} {w w' : World} {v : Value} {l : List Prt} (h : OwnP base w v l) (q : Q w w') : OwnP base w' v l := by
  rcases h.2 with ⟨rfl, h0⟩ | ⟨g, cap, cur, rfl, hb, hg, h1, h2, h3, h4⟩
  · exact ⟨h.1, .inl ⟨rfl, h0⟩⟩
  · exact ⟨h.1, .inr ⟨g, cap, cur, rfl, hb, (q.block g (lt_of_block hg)).trans hg, h1, h2, h3, h4⟩⟩
theorem OwnP.low {base b2 : Nat} {w : World} {v : Value} {l : List Prt} (h : OwnP base w v l) (k : b2 ≤ base) : OwnP b2 w v l := by
  rcases h.2 with ⟨rfl, h0⟩ | ⟨g, cap, cur, rfl, hb, r⟩
  · exact ⟨h.1, .inl ⟨rfl, h0⟩⟩
  · exact ⟨h.1, .inr ⟨g, cap, cur, rfl, by omega, r⟩⟩
theorem OwnP.form {base : Nat} {w : World} {v : Value} {l : List Prt} (h : OwnP base w v l) : ∃ A c, v = .slice A l.length c := by
  rcases h.2 with ⟨rfl, h0⟩ | ⟨g, cap, cur, rfl, -⟩
  · exact ⟨none, 0, by rw [h0]⟩
  · exact ⟨_, _, rfl⟩
theorem pcl_one (x : Prt) : ∀ u ∈ pcl x, u.oneCell' = true := by
  intro u hu
  simp [pcl] at hu
  rcases hu with rfl | rfl <;> rfl
theorem flat_onepart (l : List Prt) : ∀ u ∈ l.flatMap pcl, u.oneCell' = true := by
  intro u hu
  obtain ⟨x, -, hx⟩ := List.mem_flatMap.1 hu
  exact pcl_one x u hx
theorem OwnP.onto {base k : Nat} {w2 : World} {v2 : Value} {L M : List Prt} (h1 : w2.ownsRow base 25 2 v2 (L.length + k) (L.flatMap pcl ++ M.flatMap pcl)) (hk : k = M.length) : OwnP base w2 v2 (L ++ M) := by
  subst hk
  unfold OwnP
  rw [List.flatMap_append, List.length_append]
  exact h1
theorem OwnP.grown {base : Nat} {w0 wr w2 : World} {v : Value} {L : List Prt} (hown : OwnP base wr v L) (hbel : Below base w0 wr) (hb : base ≤ wr.heap.size) (h2 : wr.grownBy w2 v.ownBlock) : Below base w0 w2 :=
  hbel.grown h2 hb (fun k hk => (World.ownsRow.lt hown k hk).1)
theorem cells_onepart (w : World) (x : Prt) (t : TypeId) : ∀ j u, (pcl x)[j]? = some u → (w.alloc (.cells (pcl x).toArray t)).cell? ((⟨w.heap.size, 0, none⟩ : Addr).add j) = some u := by
  intro j u hj
  obtain ⟨hj2, rfl⟩ := List.getElem?_eq_some_iff.1 hj
  match j, hj2 with
  | 0, _ => simp [Addr.add, pcl]
  | 1, _ => simp [Addr.add, pcl]
theorem Prts.flat {w : World} {B : Nat} {a : Addr} {n c : Nat} {l : List Prt} (h : Prts w B (.slice (some a) n c) l) : ∀ j u, (l.flatMap pcl)[j]? = some u → w.cell? (a.add j) = some u := by
  obtain ⟨A, c', e, -, -, -, f⟩ := h
  injection e with e1 e2 e3
  intro j u hu
  obtain ⟨hj, -⟩ := List.getElem?_eq_some_iff.1 hu
  rw [flat_pcl] at hj
  have hk : j / 2 < l.length := by omega
  obtain ⟨a', ea, -, hat⟩ := f (j / 2) hk
  rw [← e1] at ea
  injection ea with ea
  subst ea
  have hj2 : j = j / 2 * 2 + j % 2 := by omega
  rw [hj2, flat_atpart l _ hk (by omega)] at hu
  have hadd : ∀ r, 0 < r → a.add (j / 2 * 2 + r) = ⟨(a.add (j / 2 * 2)).block, (a.add (j / 2 * 2)).off + r, none⟩ := by
    intro r hr
    rw [add_pos _ (by omega), add_block]
    unfold Addr.add
    split
    · simp [*]
    · simp [Nat.add_assoc]
  obtain ⟨c0, c1⟩ := hat
  rw [hj2]
  have hr : j % 2 < 2 := by omega
  match hm : j % 2, hr with
  | 0, _ => rw [hm] at hu; simp [pcl] at hu; rw [Nat.add_zero, c0, ← hu]
  | 1, _ => rw [hm] at hu; simp [pcl] at hu; rw [hadd 1 (by omega), c1, ← hu]
theorem run_append_part (w : World) (base B : Nat) (t ty : TypeId) (htt : Try.prog.underlying t = some (.slice 25)) (v : Value) (l m : List Prt) {A : Option Addr} {n c : Nat} (h : OwnP base w v l)
    (g : Prts w B (.slice A n c) m) (hb : base ≤ w.heap.size) (hl : l.length + m.length ≤ 4000) :
    ∃ v' w', (Builtin.append_ #[t, t] ty #[v, .slice A n c]).run Try.prog w = .ok v' w' ∧ OwnP base w' v' (l ++ m) ∧ w.grownBy w' v.ownBlock := by
  obtain ⟨i0, hi0, hz0, hz1, hz2⟩ := info_parts info_part
  have hn : n = m.length := by obtain ⟨A', c', e, -⟩ := g; injection e
  subst hn
  cases A with
  | none =>
    have hm : m = [] := by
      obtain ⟨A', c', e, e0, ez, -, -⟩ := g
      injection e with e1 e2 e3
      have := ez e1.symm
      exact List.length_eq_zero_iff.1 (by omega)
    subst hm
    have hc : c = 0 := by
      obtain ⟨A', c', e, e0, ez, -, -⟩ := g
      injection e with e1 e2 e3
      rw [e3]; exact ez e1.symm
    subst hc
    exact ⟨v, w, run_append_owned_none (P := Try.prog) (w := w) base t ty 25 i0 2 htt hi0 v _ _ h, by simpa using h, World.grownBy.refl w _⟩
  | some a =>
    obtain ⟨v', w', h1, h2, h3, -⟩ := run_append_own (P := Try.prog) w base t ty 25 i0 (.agg #[.int .i64 0, .string ⟨#[]⟩]) 2 24 htt hi0 hz0 hz1 hz2 rfl (by decide) v l.length (l.flatMap pcl) h a m.length c (m.flatMap pcl) (flat_pcl m) g.flat (flat_onepart m) (by unfold maxLen; omega) (by omega) hb
    exact ⟨v', w', h1, OwnP.onto (M := m) h2 rfl, h3⟩
theorem wpList_append_part {ops : Array Oper} {rest : List Oper} {o : Oper} {a : Act} {Q : Exit → Act → World → Prop} (w : World) (hgd : o.guard = none) (s x : Operand) (t : TypeId)
    (htt : Try.prog.underlying t = some (.slice 25)) (ho : o.op = .call { callee := .builtin .append, args := #[s, x], argTypes := #[t, t] })
    (base B : Nat) (v : Value) (l m : List Prt) {A : Option Addr} {n c : Nat} (hs : a.eval s = v) (hx : a.eval x = .slice A n c) (h : OwnP base w v l)
    (g : Prts w B (.slice A n c) m) (hb : base ≤ w.heap.size) (hl : l.length + m.length ≤ 4000)
    (k : ∀ v' w', OwnP base w' v' (l ++ m) → w.grownBy w' v.ownBlock → wpList Try.prog ops Q rest (a.put o.dst v') w') : wpList Try.prog ops Q (o :: rest) a w := by
  refine wpList_plain hgd fun K hK => ?_
  obtain ⟨v', w', h1, h2, h3⟩ := run_append_part w base B t o.type htt v l m h g hb hl
  unfold Oper.wp execOp
  simp only [ho, resolve, invoke, builtin, Sem.run_bind, Sem.run_pure, Result.andThen_ok, List.map_toArray, List.map_cons, List.map_nil, hs, hx, h1]
  exact hK _ _ (k v' w' h2 h3)
/-- One more behind a row of the call's own, as a walk meets it ('append(v, x)': x in a box of its own). -/
theorem wpList_snoc_part {ops : Array Oper} {rest : List Oper} {o : Oper} {a : Act} {Q : Exit → Act → World → Prop} (w : World) (hgd : o.guard = none) (s x : Operand) (t t2 : TypeId)
    (htt : Try.prog.underlying t = some (.slice 25)) (ho : o.op = .call { callee := .builtin .append, args := #[s, x], argTypes := #[t, t] })
    (base g : Nat) (v : Value) (l : List Prt) (y : Prt) {c : Nat} (hs : a.eval s = v) (hx : a.eval x = .slice (some ⟨g, 0, none⟩) 1 c) (hgg : ∀ j u, (pcl y)[j]? = some u → w.cell? ((⟨g, 0, none⟩ : Addr).add j) = some u) (h : OwnP base w v l)
    (hb : base ≤ w.heap.size) (hl : l.length ≤ 4000)
    (k : ∀ v' w', OwnP base w' v' (l ++ [y]) → w.grownBy w' v.ownBlock → wpList Try.prog ops Q rest (a.put o.dst v') w') : wpList Try.prog ops Q (o :: rest) a w := by
  refine wpList_plain hgd fun K hK => ?_
  obtain ⟨i0, hi0, hz0, hz1, hz2⟩ := info_parts info_part
  obtain ⟨v', w', h1, h2, h3, -⟩ := run_append_own (P := Try.prog) w base t o.type 25 i0 (.agg #[.int .i64 0, .string ⟨#[]⟩]) 2 24 htt hi0 hz0 hz1 hz2 rfl (by decide) v l.length (l.flatMap pcl) h ⟨g, 0, none⟩ 1 c (pcl y) rfl hgg (pcl_one y) (by unfold maxLen; omega) (by omega) hb
  unfold Oper.wp execOp
  simp only [ho, resolve, invoke, builtin, Sem.run_bind, Sem.run_pure, Result.andThen_ok, List.map_toArray, List.map_cons, List.map_nil, hs, hx, h1]
  exact hK _ _ (k v' w' (OwnP.onto (M := [y]) (by simpa using h2) rfl) h3)

/-- cellarer/api.Piece, as a value, and as it lies in memory. -/
structure Pce where
  n : Int
  tag : Nat
def pce (v : Pce) : Value := .agg #[.int .i64 v.n, .int .u32 (v.tag : Nat)]
def ccl (v : Pce) : List Value := [.int .i64 v.n, .int .u32 (v.tag : Nat)]
def okC (v : Pce) : Prop := -9223372036854775808 ≤ v.n ∧ v.n ≤ 9223372036854775807 ∧ v.tag < 4294967296
/-- It lies at p. -/
def AtC (w : World) (p : Addr) (v : Pce) : Prop :=
  w.cell? p = some (.int .i64 v.n) ∧ w.cell? ⟨p.block, p.off + 1, none⟩ = some (.int .u32 (v.tag : Nat))
/-- A slice whose elements are these; all of it lies below block B. -/
def Pces (w : World) (B : Nat) (v : Value) (l : List Pce) : Prop :=
  ∃ A c, v = .slice A l.length c ∧ l.length ≤ c ∧ (A = none → c = 0) ∧ (∀ x ∈ l, okC x) ∧ ∀ k (h : k < l.length), ∃ a : Addr, A = some a ∧ a.block < B ∧ AtC w (a.add (k * 2)) l[k]
theorem AtC.keep {w w' : World} {p : Addr} {v : Pce} (h : AtC w p v) {B : Nat} (hp : p.block < B) (k : ∀ p : Addr, p.block < B → w'.cell? p = w.cell? p) : AtC w' p v :=
  ⟨(k p hp).trans h.1, (k ⟨p.block, p.off + 1, none⟩ hp).trans h.2⟩
theorem Pces.keep {w w' : World} {B : Nat} {v : Value} {l : List Pce} (h : Pces w B v l) (k : ∀ p : Addr, p.block < B → w'.cell? p = w.cell? p) : Pces w' B v l := by
  obtain ⟨A, c, e, e0, ez, eo, f⟩ := h
  refine ⟨A, c, e, e0, ez, eo, fun i hi => ?_⟩
  obtain ⟨a, e1, e2, e3⟩ := f i hi
  exact ⟨a, e1, e2, e3.keep (by rw [add_block]; exact e2) k⟩
theorem Pces.below {w w' : World} {B : Nat} {v : Value} {l : List Pce} (h : Pces w B v l) (k : Below B w w') : Pces w' B v l := h.keep fun _ hp => k.cell hp
theorem Pces.more {w : World} {B B' : Nat} {v : Value} {l : List Pce} (h : Pces w B v l) (k : B ≤ B') : Pces w B' v l := by
  obtain ⟨A, c, e, e0, ez, eo, f⟩ := h
  refine ⟨A, c, e, e0, ez, eo, fun i hi => ?_⟩
  obtain ⟨a, e1, e2, e3⟩ := f i hi
  exact ⟨a, e1, by omega, e3⟩
theorem Pces.on {w w' : World} {v : Value} {l : List Pce} (h : Pces w w.heap.size v l) (k : Q w w') : Pces w' w'.heap.size v l := (h.below k).more k.size
theorem Pces.nil (w : World) (B : Nat) : Pces w B (.slice none 0 0) [] := ⟨none, 0, rfl, Nat.le_refl _, fun _ => rfl, by simp, fun k h => absurd h (by simp)⟩
theorem Pces.okAll {w : World} {B : Nat} {v : Value} {l : List Pce} (h : Pces w B v l) : ∀ x ∈ l, okC x := by
  obtain ⟨A, c, e, e0, ez, eo, f⟩ := h; exact eo
theorem Pces.form {w : World} {B : Nat} {v : Value} {l : List Pce} (h : Pces w B v l) : ∃ A c, v = .slice A l.length c := by
  obtain ⟨A, c, e, -⟩ := h; exact ⟨A, c, e⟩
/-- One of a slice, as it lies in every later world. -/
theorem Pces.pick {w : World} {v : Value} {l : List Pce} (h : Pces w w.heap.size v l) (i : Nat) (hi : i < l.length) :
    ∃ (a : Addr) (c : Nat), v = .slice (some a) l.length c ∧ a.block < w.heap.size ∧ okC l[i] ∧ ∀ d, Q w d → AtC d (a.add (i * 2)) l[i] := by
  obtain ⟨A, c, rfl, -, -, eo, f⟩ := h
  obtain ⟨a, rfl, ha, h1⟩ := f i hi
  exact ⟨a, c, rfl, ha, eo _ (List.getElem_mem hi), fun d q => h1.keep (by rw [add_block]; exact ha) fun _ hp => q.cell hp⟩
theorem cells_pce : Try.prog.cellsOf 65 = 2 := by kernel_rfl
theorem open_pce {H : Type} {enc : TypeId × Value → H} {W : World} {b0 : Nat} {v : Value} {d : DataW H} {p : List MemPlace} (hv : Value.okWide Try.prog W .any b0 65 v)
    (h : DataW.Trod enc Try.prog W 0 (fun _ => true) true 65 v d p) : ∃ x : Pce, v = pce x ∧ okC x := by
  obtain ⟨v0, v1, y0, y1, n, rfl, -, -, h0, h1⟩ := Joins.open_agg2 Try.underlying65 (by kernel_rfl) (by kernel_rfl) hv h
  obtain ⟨s0, e0, -, w0⟩ := DataW.trod_int Try.underlying3 h0
  obtain ⟨s1, e1, -, w1⟩ := DataW.trod_int Try.underlying28 h1
  simp at e0 e1
  subst e0 e1
  obtain ⟨s1, rfl, w1n⟩ := wfu32 w1
  exact ⟨⟨s0, s1⟩, rfl, ⟨(wf64 w0).1, (wf64 w0).2, w1n⟩⟩
theorem pce_cellE {H : Type} {enc : TypeId × Value → H} {W : World} {n : Nat} {v : Value} {y : DataW H × List MemPlace}
    (hf : DataW.trod enc Try.prog W 0 (fun _ => true) true n 55 [v] = some y) : ∃ l : List Pce, Pces W W.heap.size v l ∧ l.length ≤ maxLen := by
  rcases Deep.open_slice Try.underlying55 hf with ⟨hcs, hx⟩ | ⟨a, len', cap', m, n, D, Pl, hcs, _, hl, hm, hmm, hx, hel⟩
  · simp at hcs
    subst hcs
    exact ⟨[], Pces.nil _ _, by simp⟩
  · simp at hcs
    subst hcs
    have each : ∀ i, i < len' → ∃ x : Pce, okC x ∧ AtC W (a.add (i * 2)) x := by
      intro i hi
      obtain ⟨cs', h1, h2⟩ := hel i (by rw [hmm]; simp; omega)
      rw [cells_pce] at h1
      obtain ⟨-, hlen4, hcell⟩ := World.cells?_some h1
      obtain ⟨y0, y1, n', -, -, g0, g1⟩ := trod_struct2 Try.underlying65 h2
      obtain ⟨v0, v1, rfl⟩ : ∃ a b, cs' = [a, b] := by
        match cs', hlen4 with
        | [a, b], _ => exact ⟨a, b, rfl⟩
      have c0 : Try.prog.cellsOf 3 = 1 := by kernel_rfl
      have c1 : Try.prog.cellsOf 28 = 1 := by kernel_rfl
      simp [c0, c1] at g0 g1
      obtain ⟨s0, e0, -, w0⟩ := DataW.trod_int Try.underlying3 g0
      obtain ⟨s1, e1, -, w1⟩ := DataW.trod_int Try.underlying28 g1
      simp at e0 e1
      subst e0 e1
      obtain ⟨s1, rfl, w1n⟩ := wfu32 w1
      refine ⟨⟨s0, s1⟩, ⟨(wf64 w0).1, (wf64 w0).2, w1n⟩, ?_, ?_⟩
      · exact hcell 0 (by omega)
      · exact (congrArg W.cell? (add_pos _ (by omega : 0 < 1)).symm).trans (hcell 1 (by omega))
    obtain ⟨l, hlen, hp⟩ := list_of len' each
    refine ⟨l, ⟨some a, cap', by rw [hlen], by omega, (by simp), ?_, fun k hk => ⟨a, rfl, ?_, (hp k hk).2⟩⟩, by omega⟩
    · intro x hx
      obtain ⟨k, hk, rfl⟩ := List.getElem_of_mem hx
      exact (hp k hk).1
    · have := World.block_lt_of_cell? W _ (hp k hk).2.1
      rw [add_block] at this; exact this
theorem open_pces {H : Type} {enc : TypeId × Value → H} {W : World} {b : Nat} {v : Value} {d : DataW H} {p : List MemPlace} (hv : Value.okWide Try.prog W .any b 55 v)
    (h : DataW.Trod enc Try.prog W 0 (fun _ => true) true 55 v d p) : ∃ l : List Pce, Pces W W.heap.size v l ∧ l.length ≤ maxLen := by
  obtain ⟨a0, len, cap, rfl⟩ := okWide_slice Try.underlying55 hv
  obtain ⟨fuel, hf⟩ := h
  exact pce_cellE (by simpa [Value.cells] using hf)

theorem info_pce : (Try.prog.info? 65).map (fun i => (i.zero, i.size, i.bytes)) = some (some (.agg #[.int .i64 0, .int .u32 0]), 2, 16) := by kernel_rfl
/-- v is a row of the call's own, from block base on, of these. -/
def OwnC (base : Nat) (w : World) (v : Value) (l : List Pce) : Prop := w.ownsRow base 65 2 v l.length (l.flatMap ccl)
theorem OwnC.nil (base : Nat) (w : World) : OwnC base w (.slice none 0 0) [] := World.ownsRow_nil w _ _ _
theorem flat_ccl (l : List Pce) : (l.flatMap ccl).length = l.length * 2 := by
  induction l with
  | nil => rfl
  | cons x r ih => rw [List.flatMap_cons, List.length_append, ih, List.length_cons, show (ccl x).length = 2 by rfl]; omega
theorem flat_atpce (l : List Pce) (k : Nat) (h : k < l.length) {j : Nat} (hj : j < 2) : (l.flatMap ccl)[k * 2 + j]? = (ccl l[k])[j]? := by
  induction l generalizing k with
  | nil => simp at h
  | cons x r ih =>
    rw [List.flatMap_cons]
    cases k with
    | zero => rw [List.getElem?_append_left (by rw [show (ccl x).length = 2 by rfl]; omega)]; simp
    | succ k =>
      rw [List.getElem?_append_right (by rw [show (ccl x).length = 2 by rfl]; omega), show (k + 1) * 2 + j - (ccl x).length = k * 2 + j by rw [show (ccl x).length = 2 by rfl]; omega, ih k (by simpa using h)]
      rfl
theorem OwnC.read {base : Nat} {w : World} {v : Value} {l : List Pce} (h : OwnC base w v l) (hl : ∀ x ∈ l, okC x) : Pces w w.heap.size v l := by
  rcases h.2 with ⟨rfl, h0⟩ | ⟨g, cap, cur, rfl, hb, hg, h1, h2, h3, h4⟩
  · rw [List.length_eq_zero_iff.1 h0]; exact Pces.nil _ _
  · refine ⟨_, _, rfl, h1, (by simp), hl, fun k hk => ⟨⟨g, 0, none⟩, rfl, lt_of_block hg, ?_⟩⟩
    have hc : ∀ j, j < 2 → w.cell? ((⟨g, 0, none⟩ : Addr).add (k * 2 + j)) = (ccl l[k])[j]? := by
      intro j hj
      have := flat_atpce l k hk hj
      obtain ⟨u, hu⟩ : ∃ u, (ccl l[k])[j]? = some u := ⟨_, List.getElem?_eq_getElem (by rw [show (ccl l[k]).length = 2 by rfl]; exact hj)⟩
      rw [hu] at this ⊢
      exact World.ownsRow.cells h (g := g) rfl _ _ this
    have ha : ∀ j, 0 < j → (⟨g, 0, none⟩ : Addr).add (k * 2 + j) = ⟨((⟨g, 0, none⟩ : Addr).add (k * 2)).block, ((⟨g, 0, none⟩ : Addr).add (k * 2)).off + j, none⟩ := by
      intro j hj
      rw [add_pos _ (by omega), add_block]
      unfold Addr.add
      split
      · rename_i h0; simp [h0]
      · simp [Nat.add_assoc]
    refine ⟨hc 0 (by omega), ?_⟩
    · rw [← ha 1 (by omega)]; exact hc 1 (by omega)
theorem OwnC.on {base : Nat} {w w' : World} {v : Value} {l : List Pce} (h : OwnC base w v l) (q : Q w w') : OwnC base w' v l := by
  rcases h.2 with ⟨rfl, h0⟩ | ⟨g, cap, cur, rfl, hb, hg, h1, h2, h3, h4⟩
  · exact ⟨h.1, .inl ⟨rfl, h0⟩⟩
  · exact ⟨h.1, .inr ⟨g, cap, cur, rfl, hb, (q.block g (lt_of_block hg)).trans hg, h1, h2, h3, h4⟩⟩
theorem OwnC.low {base b2 : Nat} {w : World} {v : Value} {l : List Pce} (h : OwnC base w v l) (k : b2 ≤ base) : OwnC b2 w v l := by
  rcases h.2 with ⟨rfl, h0⟩ | ⟨g, cap, cur, rfl, hb, r⟩
  · exact ⟨h.1, .inl ⟨rfl, h0⟩⟩
  · exact ⟨h.1, .inr ⟨g, cap, cur, rfl, by omega, r⟩⟩
theorem OwnC.form {base : Nat} {w : World} {v : Value} {l : List Pce} (h : OwnC base w v l) : ∃ A c, v = .slice A l.length c := by
  rcases h.2 with ⟨rfl, h0⟩ | ⟨g, cap, cur, rfl, -⟩
  · exact ⟨none, 0, by rw [h0]⟩
  · exact ⟨_, _, rfl⟩
theorem ccl_one (x : Pce) : ∀ u ∈ ccl x, u.oneCell' = true := by
  intro u hu
  simp [ccl] at hu
  rcases hu with rfl | rfl <;> rfl
theorem flat_onepce (l : List Pce) : ∀ u ∈ l.flatMap ccl, u.oneCell' = true := by
  intro u hu
  obtain ⟨x, -, hx⟩ := List.mem_flatMap.1 hu
  exact ccl_one x u hx
theorem OwnC.onto {base k : Nat} {w2 : World} {v2 : Value} {L M : List Pce} (h1 : w2.ownsRow base 65 2 v2 (L.length + k) (L.flatMap ccl ++ M.flatMap ccl)) (hk : k = M.length) : OwnC base w2 v2 (L ++ M) := by
  subst hk
  unfold OwnC
  rw [List.flatMap_append, List.length_append]
  exact h1
theorem OwnC.grown {base : Nat} {w0 wr w2 : World} {v : Value} {L : List Pce} (hown : OwnC base wr v L) (hbel : Below base w0 wr) (hb : base ≤ wr.heap.size) (h2 : wr.grownBy w2 v.ownBlock) : Below base w0 w2 :=
  hbel.grown h2 hb (fun k hk => (World.ownsRow.lt hown k hk).1)
theorem cells_onepce (w : World) (x : Pce) (t : TypeId) : ∀ j u, (ccl x)[j]? = some u → (w.alloc (.cells (ccl x).toArray t)).cell? ((⟨w.heap.size, 0, none⟩ : Addr).add j) = some u := by
  intro j u hj
  obtain ⟨hj2, rfl⟩ := List.getElem?_eq_some_iff.1 hj
  match j, hj2 with
  | 0, _ => simp [Addr.add, ccl]
  | 1, _ => simp [Addr.add, ccl]
theorem Pces.flat {w : World} {B : Nat} {a : Addr} {n c : Nat} {l : List Pce} (h : Pces w B (.slice (some a) n c) l) : ∀ j u, (l.flatMap ccl)[j]? = some u → w.cell? (a.add j) = some u := by
  obtain ⟨A, c', e, -, -, -, f⟩ := h
  injection e with e1 e2 e3
  intro j u hu
  obtain ⟨hj, -⟩ := List.getElem?_eq_some_iff.1 hu
  rw [flat_ccl] at hj
  have hk : j / 2 < l.length := by omega
  obtain ⟨a', ea, -, hat⟩ := f (j / 2) hk
  rw [← e1] at ea
  injection ea with ea
  subst ea
  have hj2 : j = j / 2 * 2 + j % 2 := by omega
  rw [hj2, flat_atpce l _ hk (by omega)] at hu
  have hadd : ∀ r, 0 < r → a.add (j / 2 * 2 + r) = ⟨(a.add (j / 2 * 2)).block, (a.add (j / 2 * 2)).off + r, none⟩ := by
    intro r hr
    rw [add_pos _ (by omega), add_block]
    unfold Addr.add
    split
    · simp [*]
    · simp [Nat.add_assoc]
  obtain ⟨c0, c1⟩ := hat
  rw [hj2]
  have hr : j % 2 < 2 := by omega
  match hm : j % 2, hr with
  | 0, _ => rw [hm] at hu; simp [ccl] at hu; rw [Nat.add_zero, c0, ← hu]
  | 1, _ => rw [hm] at hu; simp [ccl] at hu; rw [hadd 1 (by omega), c1, ← hu]
theorem run_append_pce (w : World) (base B : Nat) (t ty : TypeId) (htt : Try.prog.underlying t = some (.slice 65)) (v : Value) (l m : List Pce) {A : Option Addr} {n c : Nat} (h : OwnC base w v l)
    (g : Pces w B (.slice A n c) m) (hb : base ≤ w.heap.size) (hl : l.length + m.length ≤ 4000) :
    ∃ v' w', (Builtin.append_ #[t, t] ty #[v, .slice A n c]).run Try.prog w = .ok v' w' ∧ OwnC base w' v' (l ++ m) ∧ w.grownBy w' v.ownBlock := by
  obtain ⟨i0, hi0, hz0, hz1, hz2⟩ := info_parts info_pce
  have hn : n = m.length := by obtain ⟨A', c', e, -⟩ := g; injection e
  subst hn
  cases A with
  | none =>
    have hm : m = [] := by
      obtain ⟨A', c', e, e0, ez, -, -⟩ := g
      injection e with e1 e2 e3
      have := ez e1.symm
      exact List.length_eq_zero_iff.1 (by omega)
    subst hm
    have hc : c = 0 := by
      obtain ⟨A', c', e, e0, ez, -, -⟩ := g
      injection e with e1 e2 e3
      rw [e3]; exact ez e1.symm
    subst hc
    exact ⟨v, w, run_append_owned_none (P := Try.prog) (w := w) base t ty 65 i0 2 htt hi0 v _ _ h, by simpa using h, World.grownBy.refl w _⟩
  | some a =>
    obtain ⟨v', w', h1, h2, h3, -⟩ := run_append_own (P := Try.prog) w base t ty 65 i0 (.agg #[.int .i64 0, .int .u32 0]) 2 16 htt hi0 hz0 hz1 hz2 rfl (by decide) v l.length (l.flatMap ccl) h a m.length c (m.flatMap ccl) (flat_ccl m) g.flat (flat_onepce m) (by unfold maxLen; omega) (by omega) hb
    exact ⟨v', w', h1, OwnC.onto (M := m) h2 rfl, h3⟩
theorem wpList_append_pce {ops : Array Oper} {rest : List Oper} {o : Oper} {a : Act} {Q : Exit → Act → World → Prop} (w : World) (hgd : o.guard = none) (s x : Operand) (t : TypeId)
    (htt : Try.prog.underlying t = some (.slice 65)) (ho : o.op = .call { callee := .builtin .append, args := #[s, x], argTypes := #[t, t] })
    (base B : Nat) (v : Value) (l m : List Pce) {A : Option Addr} {n c : Nat} (hs : a.eval s = v) (hx : a.eval x = .slice A n c) (h : OwnC base w v l)
    (g : Pces w B (.slice A n c) m) (hb : base ≤ w.heap.size) (hl : l.length + m.length ≤ 4000)
    (k : ∀ v' w', OwnC base w' v' (l ++ m) → w.grownBy w' v.ownBlock → wpList Try.prog ops Q rest (a.put o.dst v') w') : wpList Try.prog ops Q (o :: rest) a w := by
  refine wpList_plain hgd fun K hK => ?_
  obtain ⟨v', w', h1, h2, h3⟩ := run_append_pce w base B t o.type htt v l m h g hb hl
  unfold Oper.wp execOp
  simp only [ho, resolve, invoke, builtin, Sem.run_bind, Sem.run_pure, Result.andThen_ok, List.map_toArray, List.map_cons, List.map_nil, hs, hx, h1]
  exact hK _ _ (k v' w' h2 h3)
/-- One more behind a row of the call's own, as a walk meets it ('append(v, x)': x in a box of its own). -/
theorem wpList_snoc_pce {ops : Array Oper} {rest : List Oper} {o : Oper} {a : Act} {Q : Exit → Act → World → Prop} (w : World) (hgd : o.guard = none) (s x : Operand) (t t2 : TypeId)
    (htt : Try.prog.underlying t = some (.slice 65)) (ho : o.op = .call { callee := .builtin .append, args := #[s, x], argTypes := #[t, t] })
    (base g : Nat) (v : Value) (l : List Pce) (y : Pce) {c : Nat} (hs : a.eval s = v) (hx : a.eval x = .slice (some ⟨g, 0, none⟩) 1 c) (hgg : ∀ j u, (ccl y)[j]? = some u → w.cell? ((⟨g, 0, none⟩ : Addr).add j) = some u) (h : OwnC base w v l)
    (hb : base ≤ w.heap.size) (hl : l.length ≤ 4000)
    (k : ∀ v' w', OwnC base w' v' (l ++ [y]) → w.grownBy w' v.ownBlock → wpList Try.prog ops Q rest (a.put o.dst v') w') : wpList Try.prog ops Q (o :: rest) a w := by
  refine wpList_plain hgd fun K hK => ?_
  obtain ⟨i0, hi0, hz0, hz1, hz2⟩ := info_parts info_pce
  obtain ⟨v', w', h1, h2, h3, -⟩ := run_append_own (P := Try.prog) w base t o.type 65 i0 (.agg #[.int .i64 0, .int .u32 0]) 2 16 htt hi0 hz0 hz1 hz2 rfl (by decide) v l.length (l.flatMap ccl) h ⟨g, 0, none⟩ 1 c (ccl y) rfl hgg (ccl_one y) (by unfold maxLen; omega) (by omega) hb
  unfold Oper.wp execOp
  simp only [ho, resolve, invoke, builtin, Sem.run_bind, Sem.run_pure, Result.andThen_ok, List.map_toArray, List.map_cons, List.map_nil, hs, hx, h1]
  exact hK _ _ (k v' w' (OwnC.onto (M := [y]) (by simpa using h2) rfl) h3)
end Go.Proofs.Ytlahccmlnbdekaa
