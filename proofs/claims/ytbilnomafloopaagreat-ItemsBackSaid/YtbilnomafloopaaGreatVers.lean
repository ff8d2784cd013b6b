/-
  Slices of versions: as they lie in memory, made by a call, and opened as arguments.
-/
import Derived.Test.YtbilnomafloopaaGreatVCore
import Derived.OpenShut
import Derived.ShutString
import Derived.ChangeOld
import Derived.ChangeSlices
import Derived.Lib.SmallJoins
import Derived.Deep.Slices
import Derived.Carry
namespace Go.Proofs.YtbilnomafloopaaGreat
set_option maxRecDepth 100000
open Go.ChangeShapes Go.WideShapes Go.ChangeAt Go.RowKit
set_option linter.unusedVariables false
set_option linter.unusedSimpArgs false

/-- A version lies at p. -/
def At (w : World) (p : Addr) (v : Ver) : Prop :=
  w.cell? p = some (.int .u64 (v.id : Nat)) ∧ w.cell? ⟨p.block, p.off + 1, none⟩ = some (.string v.data) ∧ w.cell? ⟨p.block, p.off + 2, none⟩ = some (.bool v.mark) ∧ w.cell? ⟨p.block, p.off + 3, none⟩ = some (.int .i64 v.tm)
/-- What every version in memory is. -/
def okV (v : Ver) : Prop := v.id < 18446744073709551616 ∧ v.data.size ≤ maxLen ∧ -9223372036854775808 ≤ v.tm ∧ v.tm ≤ 9223372036854775807
/-- A slice whose elements are these versions; all of it lies below block B. -/
def Vers (w : World) (B : Nat) (v : Value) (l : List Ver) : Prop :=
  ∃ A c, v = .slice A l.length c ∧ l.length ≤ c ∧ (A = none → c = 0) ∧ (∀ x ∈ l, okV x) ∧ ∀ k (h : k < l.length), ∃ a : Addr, A = some a ∧ a.block < B ∧ At w (a.add (k * 4)) l[k]
theorem add_pos (p : Addr) {k : Nat} (h : 0 < k) : p.add k = ⟨p.block, p.off + k, none⟩ := by
  unfold Addr.add; rw [if_neg (by omega)]
theorem At.keep {w w' : World} {p : Addr} {v : Ver} (h : At w p v) {B : Nat} (hp : p.block < B) (k : ∀ p : Addr, p.block < B → w'.cell? p = w.cell? p) : At w' p v :=
  ⟨(k p hp).trans h.1, (k ⟨p.block, p.off + 1, none⟩ hp).trans h.2.1, (k ⟨p.block, p.off + 2, none⟩ hp).trans h.2.2.1, (k ⟨p.block, p.off + 3, none⟩ hp).trans h.2.2.2⟩
theorem Vers.keep {w w' : World} {B : Nat} {v : Value} {l : List Ver} (h : Vers w B v l) (k : ∀ p : Addr, p.block < B → w'.cell? p = w.cell? p) : Vers w' B v l := by
  obtain ⟨A, c, e, e0, ez, eo, f⟩ := h
  refine ⟨A, c, e, e0, ez, eo, fun i hi => ?_⟩
  obtain ⟨a, e1, e2, e3⟩ := f i hi
  exact ⟨a, e1, e2, e3.keep (by rw [add_block]; exact e2) k⟩
theorem Vers.below {w w' : World} {B : Nat} {v : Value} {l : List Ver} (h : Vers w B v l) (k : Below B w w') : Vers w' B v l := h.keep fun _ hp => k.cell hp
theorem Vers.more {w : World} {B B' : Nat} {v : Value} {l : List Ver} (h : Vers w B v l) (k : B ≤ B') : Vers w B' v l := by
  obtain ⟨A, c, e, e0, ez, eo, f⟩ := h
  refine ⟨A, c, e, e0, ez, eo, fun i hi => ?_⟩
  obtain ⟨a, e1, e2, e3⟩ := f i hi
  exact ⟨a, e1, by omega, e3⟩
theorem Vers.on {w w' : World} {v : Value} {l : List Ver} (h : Vers w w.heap.size v l) (k : Q w w') : Vers w' w'.heap.size v l := (h.below k).more k.size
theorem Vers.nil (w : World) (B : Nat) : Vers w B (.slice none 0 0) [] := ⟨none, 0, rfl, Nat.le_refl _, fun _ => rfl, by simp, fun k h => absurd h (by simp)⟩

theorem list_of {α : Type} {P : Nat → α → Prop} (n : Nat) (h : ∀ i, i < n → ∃ x, P i x) : ∃ l : List α, l.length = n ∧ ∀ i (hi : i < l.length), P i l[i] := by
  induction n with
  | zero => exact ⟨[], rfl, fun i hi => absurd hi (by simp)⟩
  | succ n ih =>
    obtain ⟨l, hl, hp⟩ := ih fun i hi => h i (by omega)
    obtain ⟨x, hx⟩ := h n (by omega)
    refine ⟨l ++ [x], by simp [hl], fun i hi => ?_⟩
    by_cases hin : i < l.length
    · rw [List.getElem_append_left hin]; exact hp i hin
    · have : i = n := by simp at hi; omega
      subst this
      rw [List.getElem_append_right (by omega)]
      simpa [hl] using hx
theorem own : ownKnob Tryz.prog.godebug = none := by kernel_rfl
theorem laid : laidOutB Tryz.prog = true := by kernel_rfl
theorem cells_ver : Tryz.prog.cellsOf 81 = 4 := by kernel_rfl
theorem wf64 {a : Int} (h : (Lit.int .i64 a).wf = true) : -9223372036854775808 ≤ a ∧ a ≤ 9223372036854775807 := by
  simpa [Lit.wf, IntKind.min, IntKind.max, IntKind.signed, IntKind.bits] using h
theorem wfu64 {a : Int} (h : (Lit.int .u64 a).wf = true) : ∃ n : Nat, a = n ∧ n < 18446744073709551616 := by
  have h2 : 0 ≤ a ∧ a ≤ 18446744073709551615 := by simpa [Lit.wf, IntKind.min, IntKind.max, IntKind.signed, IntKind.bits] using h
  exact ⟨a.toNat, by omega, by omega⟩
theorem open_ver {H : Type} {enc : TypeId × Value → H} {W : World} {b0 : Nat} {v : Value} {d : DataW H} {p : List MemPlace} (hv : Value.okWide Tryz.prog W .any b0 81 v)
    (h : DataW.Trod enc Tryz.prog W 0 (fun _ => true) true 81 v d p) : ∃ x : Ver, v = ver x ∧ okV x := by
  obtain ⟨v0, v1, v2, v3, y0, y1, y2, y3, n, rfl, -, -, h0, h1, h2, h3⟩ := Joins.open_agg4 Tryz.underlying81 (by kernel_rfl) (by kernel_rfl) hv h
  obtain ⟨i, e0, -, w0⟩ := DataW.trod_int Tryz.underlying47 h0
  obtain ⟨s, e1, -, w1⟩ := DataW.trod_string Tryz.underlying9 h1
  obtain ⟨m, e2, -⟩ := DataW.trod_bool Tryz.underlying4 h2
  obtain ⟨t, e3, -, w3⟩ := DataW.trod_int Tryz.underlying3 h3
  simp at e0 e1 e2 e3
  subst e0 e1 e2 e3
  obtain ⟨i, rfl, hi⟩ := wfu64 w0
  exact ⟨⟨i, s, m, t⟩, rfl, hi, w1, wf64 w3⟩
theorem open_vers {H : Type} {enc : TypeId × Value → H} {W : World} {b : Nat} {v : Value} {d : DataW H} {p : List MemPlace} (hv : Value.okWide Tryz.prog W .any b 61 v)
    (h : DataW.Trod enc Tryz.prog W 0 (fun _ => true) true 61 v d p) : ∃ l : List Ver, Vers W W.heap.size v l ∧ l.length ≤ maxLen := by
  obtain ⟨a0, len, cap, rfl⟩ := okWide_slice Tryz.underlying61 hv
  obtain ⟨fuel, hf⟩ := h
  rcases Deep.open_slice Tryz.underlying61 hf with ⟨hcs, hx⟩ | ⟨a, len', cap', m, n, D, Pl, hcs, _, hl, hm, hmm, hx, hel⟩
  · simp [Value.cells] at hcs
    obtain ⟨rfl, rfl, rfl⟩ := hcs
    exact ⟨[], Vers.nil _ _, by simp⟩
  · simp [Value.cells] at hcs
    obtain ⟨rfl, rfl, rfl⟩ := hcs
    have each : ∀ i, i < len → ∃ x : Ver, okV x ∧ At W (a.add (i * 4)) x := by
      intro i hi
      obtain ⟨cs', h1, h2⟩ := hel i (by rw [hmm]; simp; omega)
      rw [cells_ver] at h1
      obtain ⟨-, hlen4, hcell⟩ := World.cells?_some h1
      obtain ⟨y0, y1, y2, y3, n', -, -, g0, g1, g2, g3⟩ := Joins.trod_struct4 Tryz.underlying81 h2
      obtain ⟨v0, v1, v2, v3, rfl⟩ : ∃ a b c d, cs' = [a, b, c, d] := by
        match cs', hlen4 with
        | [a, b, c, d], _ => exact ⟨a, b, c, d, rfl⟩
      have c0 : Tryz.prog.cellsOf 47 = 1 := by kernel_rfl
      have c1 : Tryz.prog.cellsOf 9 = 1 := by kernel_rfl
      have c2 : Tryz.prog.cellsOf 4 = 1 := by kernel_rfl
      have c3 : Tryz.prog.cellsOf 3 = 1 := by kernel_rfl
      simp [c0, c1, c2, c3] at g0 g1 g2 g3
      obtain ⟨i', e0, -, w0⟩ := DataW.trod_int Tryz.underlying47 g0
      obtain ⟨s', e1, -, w1⟩ := DataW.trod_string Tryz.underlying9 g1
      obtain ⟨m', e2, -⟩ := DataW.trod_bool Tryz.underlying4 g2
      obtain ⟨t', e3, -, w3⟩ := DataW.trod_int Tryz.underlying3 g3
      simp at e0 e1 e2 e3
      subst e0 e1 e2 e3
      obtain ⟨i', rfl, hi'⟩ := wfu64 w0
      refine ⟨⟨i', s', m', t'⟩, ⟨hi', w1, wf64 w3⟩, ?_, ?_, ?_, ?_⟩
      · exact hcell 0 (by omega)
      · exact (congrArg W.cell? (add_pos _ (by omega : 0 < 1)).symm).trans (hcell 1 (by omega))
      · exact (congrArg W.cell? (add_pos _ (by omega : 0 < 2)).symm).trans (hcell 2 (by omega))
      · exact (congrArg W.cell? (add_pos _ (by omega : 0 < 3)).symm).trans (hcell 3 (by omega))
    obtain ⟨l, hlen, hp⟩ := list_of len each
    refine ⟨l, ⟨some a, cap, by rw [hlen], by omega, (by simp), ?_, fun k hk => ⟨a, rfl, ?_, (hp k hk).2⟩⟩, by omega⟩
    · intro x hx
      obtain ⟨k, hk, rfl⟩ := List.getElem_of_mem hx
      exact (hp k hk).1
    · have := World.block_lt_of_cell? W _ (hp k hk).2.1
      rw [add_block] at this; exact this

theorem info_ver : (Tryz.prog.info? 81).map (fun i => (i.zero, i.size, i.bytes)) = some (some (.agg #[.int .u64 0, .string ⟨#[]⟩, .bool false, .int .i64 0]), 4, 40) := by kernel_rfl
/-- v is a row of the call's own, from block base on, of these versions. -/
def OwnV (base : Nat) (w : World) (v : Value) (l : List Ver) : Prop := w.ownsRow base 81 4 v l.length (l.flatMap vcells)
theorem OwnV.nil (base : Nat) (w : World) : OwnV base w (.slice none 0 0) [] := World.ownsRow_nil w _ _ _
theorem flat_vcells (l : List Ver) : (l.flatMap vcells).length = l.length * 4 := by
  induction l with
  | nil => rfl
  | cons x r ih => rw [List.flatMap_cons, List.length_append, ih, List.length_cons, show (vcells x).length = 4 by rfl]; omega
theorem flat_at (l : List Ver) (k : Nat) (h : k < l.length) {j : Nat} (hj : j < 4) : (l.flatMap vcells)[k * 4 + j]? = (vcells l[k])[j]? := by
  induction l generalizing k with
  | nil => simp at h
  | cons x r ih =>
    rw [List.flatMap_cons]
    cases k with
    | zero => rw [List.getElem?_append_left (by rw [show (vcells x).length = 4 by rfl]; omega)]; simp
    | succ k =>
      rw [List.getElem?_append_right (by rw [show (vcells x).length = 4 by rfl]; omega), show (k + 1) * 4 + j - (vcells x).length = k * 4 + j by rw [show (vcells x).length = 4 by rfl]; omega, ih k (by simpa using h)]
      rfl
theorem OwnV.vers {base : Nat} {w : World} {v : Value} {l : List Ver} (h : OwnV base w v l) (hl : ∀ x ∈ l, okV x) : Vers w w.heap.size v l := by
  rcases h.2 with ⟨rfl, h0⟩ | ⟨g, cap, cur, rfl, hb, hg, h1, h2, h3, h4⟩
  · rw [List.length_eq_zero_iff.1 h0]; exact Vers.nil _ _
  · refine ⟨_, _, rfl, h1, (by simp), hl, fun k hk => ⟨⟨g, 0, none⟩, rfl, lt_of_block hg, ?_⟩⟩
    have hc : ∀ j, j < 4 → w.cell? ((⟨g, 0, none⟩ : Addr).add (k * 4 + j)) = (vcells l[k])[j]? := by
      intro j hj
      have := flat_at l k hk hj
      obtain ⟨u, hu⟩ : ∃ u, (vcells l[k])[j]? = some u := ⟨_, List.getElem?_eq_getElem (by rw [show (vcells l[k]).length = 4 by rfl]; exact hj)⟩
      rw [hu] at this ⊢
      exact World.ownsRow.cells h (g := g) rfl _ _ this
    have ha : ∀ j, 0 < j → (⟨g, 0, none⟩ : Addr).add (k * 4 + j) = ⟨((⟨g, 0, none⟩ : Addr).add (k * 4)).block, ((⟨g, 0, none⟩ : Addr).add (k * 4)).off + j, none⟩ := by
      intro j hj
      rw [add_pos _ (by omega), add_block]
      unfold Addr.add
      split
      · rename_i h0; simp [h0]
      · simp [Nat.add_assoc]
    refine ⟨hc 0 (by omega), ?_, ?_, ?_⟩
    · rw [← ha 1 (by omega)]; exact hc 1 (by omega)
    · rw [← ha 2 (by omega)]; exact hc 2 (by omega)
    · rw [← ha 3 (by omega)]; exact hc 3 (by omega)
theorem OwnV.on {base : Nat} {w w' : World} {v : Value} {l : List Ver} (h : OwnV base w v l) (q : Q w w') : OwnV base w' v l := by
  rcases h.2 with ⟨rfl, h0⟩ | ⟨g, cap, cur, rfl, hb, hg, h1, h2, h3, h4⟩
  · exact ⟨h.1, .inl ⟨rfl, h0⟩⟩
  · exact ⟨h.1, .inr ⟨g, cap, cur, rfl, hb, (q.block g (lt_of_block hg)).trans hg, h1, h2, h3, h4⟩⟩
theorem vcells_one (x : Ver) : ∀ u ∈ vcells x, u.oneCell' = true := by
  intro u hu
  simp [vcells] at hu
  rcases hu with rfl | rfl | rfl | rfl <;> rfl
theorem flat_one (l : List Ver) : ∀ u ∈ l.flatMap vcells, u.oneCell' = true := by
  intro u hu
  obtain ⟨x, -, hx⟩ := List.mem_flatMap.1 hu
  exact vcells_one x u hx
theorem OwnV.onto {base k : Nat} {w2 : World} {v2 : Value} {L M : List Ver} (h1 : w2.ownsRow base 81 4 v2 (L.length + k) (L.flatMap vcells ++ M.flatMap vcells)) (hk : k = M.length) : OwnV base w2 v2 (L ++ M) := by
  subst hk
  unfold OwnV
  rw [List.flatMap_append, List.length_append]
  exact h1
theorem ownV_grown {base : Nat} {w0 wr w2 : World} {v : Value} {L : List Ver} (hbel : Below base w0 wr) (hb : base ≤ wr.heap.size) (hown : OwnV base wr v L) (h2 : wr.grownBy w2 v.ownBlock) : Below base w0 w2 :=
  hbel.grown h2 hb (fun k hk => (World.ownsRow.lt hown k hk).1)
theorem cells_one (w : World) (x : Ver) (t : TypeId) : ∀ j u, (vcells x)[j]? = some u → (w.alloc (.cells (vcells x).toArray t)).cell? ((⟨w.heap.size, 0, none⟩ : Addr).add j) = some u := by
  intro j u hj
  obtain ⟨hj2, rfl⟩ := List.getElem?_eq_some_iff.1 hj
  match j, hj2 with
  | 0, _ => simp [Addr.add, vcells]
  | 1, _ => simp [Addr.add, vcells]
  | 2, _ => simp [Addr.add, vcells]
  | 3, _ => simp [Addr.add, vcells]
end Go.Proofs.YtbilnomafloopaaGreat
