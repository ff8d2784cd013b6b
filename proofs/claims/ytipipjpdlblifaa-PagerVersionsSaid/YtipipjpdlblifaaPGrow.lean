/-
  append of versions to a row of the call's own; contracts of slices.Grow, slices.Concat.
-/
import Derived.Test.YtipipjpdlblifaaPGet
import Derived.Lib.AppendZerosOnto
import Derived.Lib.SliceRun
import Derived.Laws.AppendOwnNone
namespace Go.Proofs.Ytipipjpdlblifaa
open Go.ChangeShapes Go.WideShapes Go.ChangeAt Go.RowKit
set_option linter.unusedVariables false
set_option linter.unusedSimpArgs false

/-- All the cells of a slice of versions. -/
theorem Vers.flat {w : World} {B : Nat} {a : Addr} {n c : Nat} {l : List Ver} (h : Vers w B (.slice (some a) n c) l) : ∀ j u, (l.flatMap vcells)[j]? = some u → w.cell? (a.add j) = some u := by
  obtain ⟨A, c', e, -, -, -, f⟩ := h
  injection e with e1 e2 e3
  intro j u hu
  obtain ⟨hj, -⟩ := List.getElem?_eq_some_iff.1 hu
  rw [flat_vcells] at hj
  have hk : j / 4 < l.length := by omega
  obtain ⟨a', ea, -, hat⟩ := f (j / 4) hk
  rw [← e1] at ea
  injection ea with ea
  subst ea
  have hj2 : j = j / 4 * 4 + j % 4 := by omega
  rw [hj2, flat_at l _ hk (by omega)] at hu
  have hadd : ∀ r, 0 < r → a.add (j / 4 * 4 + r) = ⟨(a.add (j / 4 * 4)).block, (a.add (j / 4 * 4)).off + r, none⟩ := by
    intro r hr
    rw [add_pos _ (by omega), add_block]
    unfold Addr.add
    split
    · simp [*]
    · simp [Nat.add_assoc]
  obtain ⟨c0, c1, c2, c3⟩ := hat
  rw [hj2]
  have hr : j % 4 < 4 := by omega
  match hm : j % 4, hr with
  | 0, _ => rw [hm] at hu; simp [vcells] at hu; rw [Nat.add_zero, c0, ← hu]
  | 1, _ => rw [hm] at hu; simp [vcells] at hu; rw [hadd 1 (by omega), c1, ← hu]
  | 2, _ => rw [hm] at hu; simp [vcells] at hu; rw [hadd 2 (by omega), c2, ← hu]
  | 3, _ => rw [hm] at hu; simp [vcells] at hu; rw [hadd 3 (by omega), c3, ← hu]

theorem run_append_vers (w : World) (base B : Nat) (t ty : TypeId) (htt : Try.prog.underlying t = some (.slice 63)) (v : Value) (l m : List Ver) {A : Option Addr} {n c : Nat} (h : OwnV base w v l)
    (g : Vers w B (.slice A n c) m) (hb : base ≤ w.heap.size) (hl : l.length + m.length ≤ 4000) :
    ∃ v' w', (Builtin.append_ #[t, t] ty #[v, .slice A n c]).run Try.prog w = .ok v' w' ∧ OwnV base w' v' (l ++ m) ∧ w.grownBy w' v.ownBlock := by
  obtain ⟨i0, hi0, hz0, hz1, hz2⟩ := info_parts info_ver
  have hn : n = m.length := by obtain ⟨A', c', e, -⟩ := g; injection e
  subst hn
  cases A with
  | none =>
    have hm : m = [] := by
      obtain ⟨A', c', e, e0, ez, -, -⟩ := g
      injection e with e1 e2 e3
      have := ez e1.symm
      exact List.length_eq_zero_iff.1 (by omega)
    subst hm
    have hc : c = 0 := by
      obtain ⟨A', c', e, e0, ez, -, -⟩ := g
      injection e with e1 e2 e3
      rw [e3]; exact ez e1.symm
    subst hc
    exact ⟨v, w, run_append_owned_none (P := Try.prog) (w := w) base t ty 63 i0 4 htt hi0 v _ _ h, by simpa using h, World.grownBy.refl w _⟩
  | some a =>
    obtain ⟨v', w', h1, h2, h3, -⟩ := run_append_own (P := Try.prog) w base t ty 63 i0 (.agg #[.int .u64 0, .string ⟨#[]⟩, .bool false, .int .i64 0]) 4 40 htt hi0 hz0 hz1 hz2 rfl (by decide) v l.length (l.flatMap vcells) h a m.length c (m.flatMap vcells) (flat_vcells m) g.flat (flat_one m) (by unfold maxLen; omega) (by omega) hb
    exact ⟨v', w', h1, OwnV.onto (M := m) h2 rfl, h3⟩
theorem wpList_append_vers {ops : Array Oper} {rest : List Oper} {o : Oper} {a : Act} {Q : Exit → Act → World → Prop} (w : World) (hgd : o.guard = none) (s x : Operand) (t : TypeId)
    (htt : Try.prog.underlying t = some (.slice 63)) (ho : o.op = .call { callee := .builtin .append, args := #[s, x], argTypes := #[t, t] })
    (base B : Nat) (v : Value) (l m : List Ver) {A : Option Addr} {n c : Nat} (hs : a.eval s = v) (hx : a.eval x = .slice A n c) (h : OwnV base w v l)
    (g : Vers w B (.slice A n c) m) (hb : base ≤ w.heap.size) (hl : l.length + m.length ≤ 4000)
    (k : ∀ v' w', OwnV base w' v' (l ++ m) → w.grownBy w' v.ownBlock → wpList Try.prog ops Q rest (a.put o.dst v') w') : wpList Try.prog ops Q (o :: rest) a w := by
  refine wpList_plain hgd fun K hK => ?_
  obtain ⟨v', w', h1, h2, h3⟩ := run_append_vers w base B t o.type htt v l m h g hb hl
  unfold Oper.wp execOp
  simp only [ho, resolve, invoke, builtin, Sem.run_bind, Sem.run_pure, Result.andThen_ok, List.map_toArray, List.map_cons, List.map_nil, hs, hx, h1]
  exact hK _ _ (k v' w' h2 h3)
end Go.Proofs.Ytipipjpdlblifaa
