/-
  An index with some of its entries exchanged, with lists of its own: contracts of cut, entries, Clone, apart.
-/
import Derived.Test.YtipipjpdlblifaaERput
namespace Go.Proofs.Ytipipjpdlblifaa
open Go.ChangeShapes Go.WideShapes Go.ChangeAt Go.RowKit
set_option linter.unusedVariables false
set_option linter.unusedSimpArgs false

theorem Q.trans' {a b c : World} (h : Q a b) (k : Below a.heap.size b c) : Q a c := Below.trans h k
theorem Ents.cutTake {w : World} {B : Nat} {A : Option Addr} {n c : Nat} {l : List Ent} (h : Ents w B (.slice A n c) l) {i : Nat} (hi : i ≤ l.length) : Ents w B (.slice A i i) (l.take i) := by
  obtain ⟨A, c', e, e0, ez, eo, f⟩ := h
  injection e with e1 e2 e3
  subst e1 e2 e3
  have hlen : (l.take i).length = i := by rw [List.length_take]; omega
  refine ⟨_, _, by rw [hlen], by omega, (fun hA => by have := ez hA; omega), fun x hx => eo x (List.mem_of_mem_take hx), fun k hk => ?_⟩
  obtain ⟨a', e1, e2, e3⟩ := f k (by omega)
  exact ⟨a', e1, e2, by rw [List.getElem_take]; exact e3⟩
theorem Ents.cutDrop {w : World} {B : Nat} {a : Addr} {n c : Nat} {l : List Ent} (h : Ents w B (.slice (some a) n c) l) {i : Nat} (hi : i ≤ l.length) : Ents w B (.slice (some (a.add (i * 2))) (l.length - i) (c - i)) (l.drop i) := by
  obtain ⟨A, c', e, e0, ez, eo, f⟩ := h
  injection e with e1 e2 e3
  subst e1 e2 e3
  have hlen : (l.drop i).length = l.length - i := by rw [List.length_drop]
  refine ⟨_, _, by rw [hlen], by omega, (by simp), fun x hx => eo x (List.mem_of_mem_drop hx), fun k hk => ?_⟩
  rw [hlen] at hk
  obtain ⟨a', e1, e2, e3⟩ := f (i + k) (by omega)
  injection e1 with e1
  subst e1
  refine ⟨_, rfl, by rw [add_block]; exact e2, ?_⟩
  rw [Addr.add_add, List.getElem_drop, ← Nat.add_mul]; exact e3
theorem Ents.cutEnd {w : World} {B : Nat} {A : Option Addr} {l : List Ent} (hl : l = []) : Ents w B (.slice A 0 0) l := by
  subst hl
  exact ⟨_, _, rfl, Nat.le_refl _, (by simp), by simp, fun k h => absurd h (by simp)⟩

/-- What is known of each entry of a row: its versions lie below base. -/
def Lows (base : Nat) (w : World) (P : List (Ent × Value)) : Prop := ∀ p ∈ P, p.1.key.size ≤ maxLen ∧ p.1.L.length ≤ maxLen ∧ Vers w base p.2 p.1.L
theorem Lows.below {base : Nat} {w w' : World} {P : List (Ent × Value)} (h : Lows base w P) (k : Below base w w') : Lows base w' P := fun p hp => ⟨(h p hp).1, (h p hp).2.1, (h p hp).2.2.below k⟩
theorem Lows.shapes {base : Nat} {w : World} {P : List (Ent × Value)} (h : Lows base w P) : shapes P := fun p hp => by
  obtain ⟨A, c, e⟩ := (h p hp).2.2.form; exact ⟨A, _, c, e⟩
/-- append of entries to a row of the call's own. -/
theorem run_append_rowE (w : World) (base : Nat) (t ty : TypeId) (htt : Try.prog.underlying t = some (.slice 61)) (v : Value) (P : List (Ent × Value)) (m : List Ent) {A : Option Addr} {n c : Nat} (h : RowE base w v P) (hP : Lows base w P)
    (g : Ents w base (.slice A n c) m) (hb : base ≤ w.heap.size) (hl : P.length + m.length ≤ 4000) :
    ∃ v' w' R, (Builtin.append_ #[t, t] ty #[v, .slice A n c]).run Try.prog w = .ok v' w' ∧ R.map (·.1) = m ∧ RowE base w' v' (P ++ R) ∧ Lows base w' (P ++ R) ∧ Below base w w' := by
  obtain ⟨i0, hi0, hz0, hz1, hz2⟩ := info_parts info_ent
  have hn : n = m.length := by obtain ⟨A', c', e, -⟩ := g; injection e
  subst hn
  cases A with
  | none =>
    have hm : m = [] := by
      obtain ⟨A', c', e, e0, ez, -, -⟩ := g
      injection e with e1 e2 e3
      have := ez e1.symm
      exact List.length_eq_zero_iff.1 (by omega)
    subst hm
    have hc : c = 0 := by
      obtain ⟨A', c', e, e0, ez, -, -⟩ := g
      injection e with e1 e2 e3
      rw [e3]; exact ez e1.symm
    subst hc
    exact ⟨v, w, [], run_append_owned_none (P := Try.prog) (w := w) base t ty 61 i0 2 htt hi0 v _ _ h, rfl, by simpa using h, by simpa using hP, Below.refl _ _⟩
  | some a =>
    obtain ⟨R, hR, hf, hc⟩ := g.flat
    have hRl : R.length = m.length := by rw [← hR, List.length_map]
    have hR2 : Lows base w R := hf
    obtain ⟨v', w', h1, h2, h3, -⟩ := run_append_own (P := Try.prog) w base t ty 61 i0 (.agg #[.string ⟨#[]⟩, .slice none 0 0]) 2 40 htt hi0 hz0 hz1 hz2 rfl (by decide) v P.length (P.flatMap pcells) h a m.length c (R.flatMap pcells) (by rw [flat_pcells, hRl]) hc (flat_oneP hR2.shapes) (by unfold maxLen; omega) (by omega) hb
    have b : Below base w w' := (Below.refl base w).grown h3 hb (fun k hk => (World.ownsRow.lt h k hk).1)
    refine ⟨v', w', R, h1, hR, RowE.onto (R := R) h2 hRl.symm, fun p hp => ?_, b⟩
    rcases List.mem_append.1 hp with hp | hp
    · exact (hP.below b) p hp
    · exact (hR2.below b) p hp
/-- A slice that is only read, with no room behind it, or a row of the call's own: what lies in it lies below base. -/
def Cat (base : Nat) (w : World) (v : Value) (l : List Ent) : Prop :=
  (Ents w base v l ∧ ∃ A, v = .slice A l.length l.length) ∨ (∃ P, P.map (·.1) = l ∧ RowE base w v P ∧ Lows base w P)
theorem Cat.read {base : Nat} {w w' : World} {A : Option Addr} {n : Nat} {l : List Ent} (h : Ents w base (.slice A n n) l) (k : Below base w w') (hn : l.length = n) : Cat base w' (.slice A n n) l := .inl ⟨h.below k, A, by rw [hn]⟩
theorem Cat.ents {base : Nat} {w : World} {v : Value} {l : List Ent} (h : Cat base w v l) (hb : base ≤ w.heap.size) : Ents w w.heap.size v l := by
  rcases h with ⟨h, -⟩ | ⟨P, rfl, r, f⟩
  · exact h.more hb
  · exact r.ents hb fun p hp => ⟨(f p hp).1, (f p hp).2.1, (f p hp).2.2.more hb⟩
theorem run_append_cat (w : World) (base : Nat) (t ty : TypeId) (htt : Try.prog.underlying t = some (.slice 61)) (v : Value) (l m : List Ent) {A : Option Addr} {n c : Nat} (h : Cat base w v l)
    (g : Ents w base (.slice A n c) m) (hb : base ≤ w.heap.size) (hl : l.length + m.length ≤ 4000) :
    ∃ v' w', (Builtin.append_ #[t, t] ty #[v, .slice A n c]).run Try.prog w = .ok v' w' ∧ Cat base w' v' (l ++ m) ∧ Below base w w' := by
  rcases h with ⟨h, B, rfl⟩ | ⟨P, rfl, r, f⟩
  · obtain ⟨i0, hi0, hz0, hz1, hz2⟩ := info_parts info_ent
    have hn : n = m.length := by obtain ⟨A', c', e, -⟩ := g; injection e
    subst hn
    by_cases hm : m = []
    · subst hm
      have hrun : (Builtin.append_ #[t, t] ty #[.slice B l.length l.length, .slice A ([] : List Ent).length c]).run Try.prog w = .ok (.slice B l.length l.length) w := by
        cases A <;> cases B <;> simp [Builtin.append_, run_underlying htt, sizeOf, typeInfo, hi0, Builtin.lenOf, Builtin.firstCells, loadCells, loadCellsFrom, storeCells]
      exact ⟨_, _, hrun, by rw [List.append_nil]; exact .inl ⟨h, B, rfl⟩, Below.refl _ _⟩
    · have hml : 0 < m.length := List.length_pos_iff.2 hm
      cases B with
      | none =>
        have hl0 : l = [] := by
          obtain ⟨A', c', e, e0, ez, -, -⟩ := h
          injection e with e1 e2 e3
          exact List.length_eq_zero_iff.1 (by have := ez e1.symm; omega)
        subst hl0
        obtain ⟨v', w', R, h1, h2, h3, h4, h5⟩ := run_append_rowE w base t ty htt (.slice none 0 0) [] m (World.ownsRow_nil w _ _ _) (by intro p hp; simp at hp) g hb (by simp at hl ⊢; omega)
        exact ⟨v', w', h1, .inr ⟨R, h2, h3, h4⟩, h5⟩
      | some b =>
        cases A with
        | none =>
          exfalso
          obtain ⟨A', c', e, e0, ez, -, -⟩ := g
          injection e with e1 e2 e3
          have := ez e1.symm
          omega
        | some a =>
          obtain ⟨P, hP, hf, hc⟩ := h.flat
          obtain ⟨R, hR, hf2, hc2⟩ := g.flat
          have hPl : P.length = l.length := by rw [← hP, List.length_map]
          have hRl : R.length = m.length := by rw [← hR, List.length_map]
          have hR2 : Lows base w R := hf2
          have hP2 : Lows base w P := hf
          obtain ⟨v', w', h1, h2, h3⟩ := run_append_arg_grows (P := Try.prog) w t ty 61 i0 (.agg #[.string ⟨#[]⟩, .slice none 0 0]) 2 40 htt hi0 hz0 hz1 hz2 rfl (by decide) b l.length l.length (P.flatMap pcells) (by rw [flat_pcells, hPl]) hc a m.length c (R.flatMap pcells) (by rw [flat_pcells, hRl]) hc2 (by omega) (by unfold maxLen; omega) (by omega)
          have b' : Below base w w' := (Below.refl base w).grown h3 hb (by simp)
          have r : RowE base w' v' (P ++ R) := by
            refine RowE.onto (R := R) (k := m.length) ?_ hRl.symm
            rw [hPl]
            rcases h2.2 with ⟨rfl, h0⟩ | ⟨g, cap, cur, rfl, hb', rest⟩
            · exact ⟨h2.1, .inl ⟨rfl, h0⟩⟩
            · exact ⟨h2.1, .inr ⟨g, cap, cur, rfl, by omega, rest⟩⟩
          refine ⟨v', w', h1, .inr ⟨P ++ R, by rw [List.map_append, hP, hR], r, fun p hp => ?_⟩, b'⟩
          rcases List.mem_append.1 hp with hp | hp
          · exact (hP2.below b') p hp
          · exact (hR2.below b') p hp
  · obtain ⟨v', w', R, h1, h2, h3, h4, h5⟩ := run_append_rowE w base t ty htt v P m r f g hb (by rw [List.length_map] at hl; exact hl)
    exact ⟨v', w', h1, .inr ⟨P ++ R, by rw [List.map_append, h2], h3, h4⟩, h5⟩
theorem wp_append_cat {o : Oper} {a : Act} {K : Act → World → Prop} {Q0 : Exit → Act → World → Prop} (w : World) (s x : Operand) (t : TypeId)
    (ho : o.op = .call { callee := .builtin .append, args := #[s, x], argTypes := #[t, t] }) (htt : Try.prog.underlying t = some (.slice 61))
    (base : Nat) (v : Value) (l m : List Ent) {A : Option Addr} {n c : Nat} (hs : a.eval s = v) (hx : a.eval x = .slice A n c) (h : Cat base w v l)
    (g : Ents w base (.slice A n c) m) (hb : base ≤ w.heap.size) (hl : l.length + m.length ≤ 4000)
    (k : ∀ v' w', Cat base w' v' (l ++ m) → Below base w w' → K (a.put o.dst v') w') : o.wp Try.prog a w K Q0 := by
  obtain ⟨v', w', h1, h2, h3⟩ := run_append_cat w base t o.type htt v l m h g hb hl
  unfold Oper.wp execOp
  simp only [ho, resolve, invoke, builtin, Sem.run_bind, Sem.run_pure, Result.andThen_ok, List.map_toArray, List.map_cons, List.map_nil, hs, hx, h1]
  exact k v' w' h2 h3
theorem wpList_append_rowE {ops : Array Oper} {rest : List Oper} {o : Oper} {a : Act} {Q0 : Exit → Act → World → Prop} (w : World) (hgd : o.guard = none) (s x : Operand) (t : TypeId)
    (htt : Try.prog.underlying t = some (.slice 61)) (ho : o.op = .call { callee := .builtin .append, args := #[s, x], argTypes := #[t, t] })
    (base : Nat) (v : Value) (P : List (Ent × Value)) (m : List Ent) {A : Option Addr} {n c : Nat} (hs : a.eval s = v) (hx : a.eval x = .slice A n c) (h : RowE base w v P) (hP : Lows base w P)
    (g : Ents w base (.slice A n c) m) (hb : base ≤ w.heap.size) (hl : P.length + m.length ≤ 4000)
    (k : ∀ v' w' R, R.map (·.1) = m → RowE base w' v' (P ++ R) → Lows base w' (P ++ R) → Below base w w' → wpList Try.prog ops Q0 rest (a.put o.dst v') w') : wpList Try.prog ops Q0 (o :: rest) a w := by
  refine wpList_plain hgd fun K hK => ?_
  obtain ⟨v', w', R, h1, h2, h3, h4, h5⟩ := run_append_rowE w base t o.type htt v P m h hP g hb hl
  unfold Oper.wp execOp
  simp only [ho, resolve, invoke, builtin, Sem.run_bind, Sem.run_pure, Result.andThen_ok, List.map_toArray, List.map_cons, List.map_nil, hs, hx, h1]
  exact hK _ _ (k v' w' R h2 h3 h4 h5)

def oneK (key : ByteArray) (m : List Ver) : List Ent := if m = [] then [] else [⟨key, m⟩]
end Go.Proofs.Ytipipjpdlblifaa
