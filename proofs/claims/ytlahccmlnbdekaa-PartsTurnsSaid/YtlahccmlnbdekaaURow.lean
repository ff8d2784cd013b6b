/-
  Rows of uploads whose lists are rows of one's own: they lie above all that was there, and stay where a box below is written.
-/
import Derived.Test.YtlahccmlnbdekaaUFind2
namespace Go.Proofs.Ytlahccmlnbdekaa
open Go.ChangeShapes Go.WideShapes Go.ChangeAt Go.RowKit
set_option linter.unusedVariables false
set_option linter.unusedSimpArgs false
set_option maxRecDepth 100000

def F1 (base : Nat) (w : World) (p : Upl × Value) : Prop := okU p.1 ∧ (∀ x ∈ p.1.L, okP x) ∧ OwnP base w p.2 p.1.L
def RowF (base : Nat) (w : World) (v : Value) (l : List Upl) : Prop := ∃ P : List (Upl × Value), P.map (·.1) = l ∧ RowU base w v P ∧ ∀ p ∈ P, F1 base w p
theorem F1.one {base : Nat} {w : World} {p : Upl × Value} (h : F1 base w p) : OwnU1 base w p := ⟨h.1, h.2.1, h.1.2.2, .inr h.2.2⟩
theorem RowF.own {base : Nat} {w : World} {v : Value} {l : List Upl} (h : RowF base w v l) : OwnU base w v l := by
  obtain ⟨P, e, r, f⟩ := h
  exact ⟨P, e, r, fun p hp => (f p hp).one⟩
theorem RowF.nil (base : Nat) (w : World) : RowF base w (.slice none 0 0) [] := ⟨[], rfl, World.ownsRow_nil w _ _ _, by simp⟩
theorem RowF.on {base : Nat} {w w' : World} {v : Value} {l : List Upl} (h : RowF base w v l) (q : Q w w') : RowF base w' v l := by
  obtain ⟨P, e, r, f⟩ := h
  exact ⟨P, e, r.on q, fun p hp => ⟨(f p hp).1, (f p hp).2.1, (f p hp).2.2.on q⟩⟩
theorem RowF.form {base : Nat} {w : World} {v : Value} {l : List Upl} (h : RowF base w v l) : ∃ A c, v = .slice A l.length c := h.own.form
theorem RowF.read {base : Nat} {w : World} {v : Value} {l : List Upl} (h : RowF base w v l) (hb : base ≤ w.heap.size) : Upls w w.heap.size v l := h.own.read hb
/-- A box below the rows is written. -/
theorem RowF.set {base B i : Nat} {w : World} {v u : Value} {l : List Upl} (h : RowF base w v l) (hb : B < base) : RowF base (w.setCell ⟨B, i, none⟩ u) v l := by
  obtain ⟨P, e, r, f⟩ := h
  exact ⟨P, e, ownsRow_set r hb, fun p hp => ⟨(f p hp).1, (f p hp).2.1, ownsRow_set (f p hp).2.2 hb⟩⟩
theorem part_ne_upl : 25 ≠ 40 := by decide
theorem OwnP.grownF {base : Nat} {w w' : World} {v u : Value} {P : List (Upl × Value)} {L : List Prt} (h : OwnP base w u L) (r : RowU base w v P) (g : w.grownBy w' v.ownBlock) : OwnP base w' u L := by
  have hh := World.ownsRow.kept h (row := v.ownBlock) g
  refine hh ?_
  rcases h.2 with ⟨rfl, -⟩ | ⟨g1, cap1, cur1, rfl, -, hg1, -⟩
  · left; rfl
  · right
    rcases r.2 with ⟨rfl, -⟩ | ⟨g2, cap2, cur2, rfl, -, hg2, -⟩
    · simp [Value.ownBlock]
    · simp only [Value.ownBlock, ne_eq, Option.some.injEq]
      intro e
      subst e
      rw [hg1] at hg2
      injection hg2 with hg2
      injection hg2 with _ h2 _
      exact part_ne_upl h2
theorem wpList_snoc_rowF {ops : Array Oper} {rest : List Oper} {o : Oper} {a : Act} {Q : Exit → Act → World → Prop} (w : World) (hgd : o.guard = none) (s x : Operand) (t : TypeId)
    (htt : Try.prog.underlying t = some (.slice 40)) (ho : o.op = .call { callee := .builtin .append, args := #[s, x], argTypes := #[t, t] })
    (base g : Nat) (v : Value) (l : List Upl) (p : Upl × Value) {c : Nat} (hs : a.eval s = v) (hx : a.eval x = .slice (some ⟨g, 0, none⟩) 1 c) (hgg : ∀ j u, (ucl p)[j]? = some u → w.cell? ((⟨g, 0, none⟩ : Addr).add j) = some u)
    (h : RowF base w v l) (hp : F1 base w p) (hb : base ≤ w.heap.size) (hl : l.length ≤ 4000)
    (k : ∀ v' w', RowF base w' v' (l ++ [p.1]) → Below base w w' → wpList Try.prog ops Q rest (a.put o.dst v') w') : wpList Try.prog ops Q (o :: rest) a w := by
  refine wpList_plain hgd fun K hK => ?_
  obtain ⟨i0, hi0, hz0, hz1, hz2⟩ := info_parts info_upl
  obtain ⟨P, hP, r, f⟩ := h
  have hPl : P.length = l.length := by rw [← hP, List.length_map]
  obtain ⟨v', w', h1, h2, h3, -⟩ := run_append_own (P := Try.prog) w base t o.type 40 i0 (.agg #[.int .u64 0, .string ⟨#[]⟩, .slice none 0 0]) 3 48 htt hi0 hz0 hz1 hz2 rfl (by decide) v P.length (P.flatMap ucl) r ⟨g, 0, none⟩ 1 c (ucl p) rfl hgg (ucl_one hp.one.2.shape) (by unfold maxLen; omega) (by omega) hb
  unfold Oper.wp execOp
  simp only [ho, resolve, invoke, builtin, Sem.run_bind, Sem.run_pure, Result.andThen_ok, List.map_toArray, List.map_cons, List.map_nil, hs, hx, h1]
  refine hK _ _ (k v' w' ⟨P ++ [p], by rw [List.map_append, hP]; rfl, RowU.onto (R := [p]) (by simpa using h2) rfl, fun q hq => ?_⟩ ((Below.refl base w).grown h3 hb fun k hk => (World.ownsRow.lt r k hk).1))
  rcases List.mem_append.1 hq with hq | hq
  · exact ⟨(f q hq).1, (f q hq).2.1, (f q hq).2.2.grownF r h3⟩
  · obtain rfl : q = p := by simpa using hq
    exact ⟨hp.1, hp.2.1, hp.2.2.grownF r h3⟩
end Go.Proofs.Ytlahccmlnbdekaa
