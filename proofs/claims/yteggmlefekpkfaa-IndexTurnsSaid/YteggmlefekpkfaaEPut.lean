/-
  An index with some of its entries exchanged, with lists of its own: contracts of cut, entries, Clone, apart.
-/
import Derived.Test.YteggmlefekpkfaaERput
namespace Go.Proofs.Yteggmlefekpkfaa
open Go.ChangeShapes Go.WideShapes Go.ChangeAt Go.RowKit
set_option linter.unusedVariables false
set_option linter.unusedSimpArgs false

theorem Q.trans' {a b c : World} (h : Q a b) (k : Below a.heap.size b c) : Q a c := Below.trans h k
theorem Ents.cutTake {w : World} {B : Nat} {A : Option Addr} {n c : Nat} {l : List Ent} (h : Ents w B (.slice A n c) l) {i : Nat} (hi : i ≤ l.length) : Ents w B (.slice A i i) (l.take i) := by
  obtain ⟨A, c', e, e0, ez, eo, f⟩ := h
  injection e with e1 e2 e3
  subst e1 e2 e3
  have hlen : (l.take i).length = i := by rw [List.length_take]; omega
  refine ⟨_, _, by rw [hlen], by omega, (fun hA => by have := ez hA; omega), fun x hx => eo x (List.mem_of_mem_take hx), fun k hk => ?_⟩
  obtain ⟨a', e1, e2, e3⟩ := f k (by omega)
  exact ⟨a', e1, e2, by rw [List.getElem_take]; exact e3⟩
theorem Ents.cutDrop {w : World} {B : Nat} {a : Addr} {n c : Nat} {l : List Ent} (h : Ents w B (.slice (some a) n c) l) {i : Nat} (hi : i ≤ l.length) : Ents w B (.slice (some (a.add (i * 2))) (l.length - i) (c - i)) (l.drop i) := by
  obtain ⟨A, c', e, e0, ez, eo, f⟩ := h
  injection e with e1 e2 e3
  subst e1 e2 e3
  have hlen : (l.drop i).length = l.length - i := by rw [List.length_drop]
  refine ⟨_, _, by rw [hlen], by omega, (by simp), fun x hx => eo x (List.mem_of_mem_drop hx), fun k hk => ?_⟩
  rw [hlen] at hk
  obtain ⟨a', e1, e2, e3⟩ := f (i + k) (by omega)
  injection e1 with e1
  subst e1
  refine ⟨_, rfl, by rw [add_block]; exact e2, ?_⟩
  rw [Addr.add_add, List.getElem_drop, ← Nat.add_mul]; exact e3
theorem Ents.cutEnd {w : World} {B : Nat} {A : Option Addr} {l : List Ent} (hl : l = []) : Ents w B (.slice A 0 0) l := by
  subst hl
  exact ⟨_, _, rfl, Nat.le_refl _, (by simp), by simp, fun k h => absurd h (by simp)⟩

/-- What is known of each entry of a row: its versions lie below base. -/
def Lows (base : Nat) (w : World) (P : List (Ent × Value)) : Prop := ∀ p ∈ P, p.1.key.size ≤ maxLen ∧ p.1.L.length ≤ maxLen ∧ Vers w base p.2 p.1.L
theorem Lows.below {base : Nat} {w w' : World} {P : List (Ent × Value)} (h : Lows base w P) (k : Below base w w') : Lows base w' P := fun p hp => ⟨(h p hp).1, (h p hp).2.1, (h p hp).2.2.below k⟩
theorem Lows.shapes {base : Nat} {w : World} {P : List (Ent × Value)} (h : Lows base w P) : shapes P := fun p hp => by
  obtain ⟨A, c, e⟩ := (h p hp).2.2.form; exact ⟨A, _, c, e⟩
/-- append of entries to a row of the call's own. -/
theorem run_append_rowE (w : World) (base : Nat) (t ty : TypeId) (htt : Try.prog.underlying t = some (.slice 48)) (v : Value) (P : List (Ent × Value)) (m : List Ent) {A : Option Addr} {n c : Nat} (h : RowE base w v P) (hP : Lows base w P)
    (g : Ents w base (.slice A n c) m) (hb : base ≤ w.heap.size) (hl : P.length + m.length ≤ 4000) :
    ∃ v' w' R, (Builtin.append_ #[t, t] ty #[v, .slice A n c]).run Try.prog w = .ok v' w' ∧ R.map (·.1) = m ∧ RowE base w' v' (P ++ R) ∧ Lows base w' (P ++ R) ∧ Below base w w' := by
  obtain ⟨i0, hi0, hz0, hz1, hz2⟩ := info_parts info_ent
  have hn : n = m.length := by obtain ⟨A', c', e, -⟩ := g; injection e
  subst hn
  cases A with
  | none =>
    have hm : m = [] := by
      obtain ⟨A', c', e, e0, ez, -, -⟩ := g
      injection e with e1 e2 e3
      have := ez e1.symm
      exact List.length_eq_zero_iff.1 (by omega)
    subst hm
    have hc : c = 0 := by
      obtain ⟨A', c', e, e0, ez, -, -⟩ := g
      injection e with e1 e2 e3
      rw [e3]; exact ez e1.symm
    subst hc
    exact ⟨v, w, [], run_append_owned_none (P := Try.prog) (w := w) base t ty 48 i0 2 htt hi0 v _ _ h, rfl, by simpa using h, by simpa using hP, Below.refl _ _⟩
  | some a =>
    obtain ⟨R, hR, hf, hc⟩ := g.flat
    have hRl : R.length = m.length := by rw [← hR, List.length_map]
    have hR2 : Lows base w R := hf
    obtain ⟨v', w', h1, h2, h3, -⟩ := run_append_own (P := Try.prog) w base t ty 48 i0 (.agg #[.string ⟨#[]⟩, .slice none 0 0]) 2 40 htt hi0 hz0 hz1 hz2 rfl (by decide) v P.length (P.flatMap pcells) h a m.length c (R.flatMap pcells) (by rw [flat_pcells, hRl]) hc (flat_oneP hR2.shapes) (by unfold maxLen; omega) (by omega) hb
    have b : Below base w w' := (Below.refl base w).grown h3 hb (fun k hk => (World.ownsRow.lt h k hk).1)
    refine ⟨v', w', R, h1, hR, RowE.onto (R := R) h2 hRl.symm, fun p hp => ?_, b⟩
    rcases List.mem_append.1 hp with hp | hp
    · exact (hP.below b) p hp
    · exact (hR2.below b) p hp
/-- A slice that is only read, with no room behind it, or a row of the call's own: what lies in it lies below base. -/
def Cat (base : Nat) (w : World) (v : Value) (l : List Ent) : Prop :=
  (Ents w base v l ∧ ∃ A, v = .slice A l.length l.length) ∨ (∃ P, P.map (·.1) = l ∧ RowE base w v P ∧ Lows base w P)
theorem Cat.read {base : Nat} {w w' : World} {A : Option Addr} {n : Nat} {l : List Ent} (h : Ents w base (.slice A n n) l) (k : Below base w w') (hn : l.length = n) : Cat base w' (.slice A n n) l := .inl ⟨h.below k, A, by rw [hn]⟩
theorem Cat.ents {base : Nat} {w : World} {v : Value} {l : List Ent} (h : Cat base w v l) (hb : base ≤ w.heap.size) : Ents w w.heap.size v l := by
  rcases h with ⟨h, -⟩ | ⟨P, rfl, r, f⟩
  · exact h.more hb
  · exact r.ents hb fun p hp => ⟨(f p hp).1, (f p hp).2.1, (f p hp).2.2.more hb⟩
theorem run_append_cat (w : World) (base : Nat) (t ty : TypeId) (htt : Try.prog.underlying t = some (.slice 48)) (v : Value) (l m : List Ent) {A : Option Addr} {n c : Nat} (h : Cat base w v l)
    (g : Ents w base (.slice A n c) m) (hb : base ≤ w.heap.size) (hl : l.length + m.length ≤ 4000) :
    ∃ v' w', (Builtin.append_ #[t, t] ty #[v, .slice A n c]).run Try.prog w = .ok v' w' ∧ Cat base w' v' (l ++ m) ∧ Below base w w' := by
  rcases h with ⟨h, B, rfl⟩ | ⟨P, rfl, r, f⟩
  · obtain ⟨i0, hi0, hz0, hz1, hz2⟩ := info_parts info_ent
    have hn : n = m.length := by obtain ⟨A', c', e, -⟩ := g; injection e
    subst hn
    by_cases hm : m = []
    · subst hm
      have hrun : (Builtin.append_ #[t, t] ty #[.slice B l.length l.length, .slice A ([] : List Ent).length c]).run Try.prog w = .ok (.slice B l.length l.length) w := by
        cases A <;> cases B <;> simp [Builtin.append_, run_underlying htt, sizeOf, typeInfo, hi0, Builtin.lenOf, Builtin.firstCells, loadCells, loadCellsFrom, storeCells]
      exact ⟨_, _, hrun, by rw [List.append_nil]; exact .inl ⟨h, B, rfl⟩, Below.refl _ _⟩
    · have hml : 0 < m.length := List.length_pos_iff.2 hm
      cases B with
      | none =>
        have hl0 : l = [] := by
          obtain ⟨A', c', e, e0, ez, -, -⟩ := h
          injection e with e1 e2 e3
          exact List.length_eq_zero_iff.1 (by have := ez e1.symm; omega)
        subst hl0
        obtain ⟨v', w', R, h1, h2, h3, h4, h5⟩ := run_append_rowE w base t ty htt (.slice none 0 0) [] m (World.ownsRow_nil w _ _ _) (by intro p hp; simp at hp) g hb (by simp at hl ⊢; omega)
        exact ⟨v', w', h1, .inr ⟨R, h2, h3, h4⟩, h5⟩
      | some b =>
        cases A with
        | none =>
          exfalso
          obtain ⟨A', c', e, e0, ez, -, -⟩ := g
          injection e with e1 e2 e3
          have := ez e1.symm
          omega
        | some a =>
          obtain ⟨P, hP, hf, hc⟩ := h.flat
          obtain ⟨R, hR, hf2, hc2⟩ := g.flat
          have hPl : P.length = l.length := by rw [← hP, List.length_map]
          have hRl : R.length = m.length := by rw [← hR, List.length_map]
          have hR2 : Lows base w R := hf2
          have hP2 : Lows base w P := hf
          obtain ⟨v', w', h1, h2, h3⟩ := run_append_arg_grows (P := Try.prog) w t ty 48 i0 (.agg #[.string ⟨#[]⟩, .slice none 0 0]) 2 40 htt hi0 hz0 hz1 hz2 rfl (by decide) b l.length l.length (P.flatMap pcells) (by rw [flat_pcells, hPl]) hc a m.length c (R.flatMap pcells) (by rw [flat_pcells, hRl]) hc2 (by omega) (by unfold maxLen; omega) (by omega)
          have b' : Below base w w' := (Below.refl base w).grown h3 hb (by simp)
          have r : RowE base w' v' (P ++ R) := by
            refine RowE.onto (R := R) (k := m.length) ?_ hRl.symm
            rw [hPl]
            rcases h2.2 with ⟨rfl, h0⟩ | ⟨g, cap, cur, rfl, hb', rest⟩
            · exact ⟨h2.1, .inl ⟨rfl, h0⟩⟩
            · exact ⟨h2.1, .inr ⟨g, cap, cur, rfl, by omega, rest⟩⟩
          refine ⟨v', w', h1, .inr ⟨P ++ R, by rw [List.map_append, hP, hR], r, fun p hp => ?_⟩, b'⟩
          rcases List.mem_append.1 hp with hp | hp
          · exact (hP2.below b') p hp
          · exact (hR2.below b') p hp
  · obtain ⟨v', w', R, h1, h2, h3, h4, h5⟩ := run_append_rowE w base t ty htt v P m r f g hb (by rw [List.length_map] at hl; exact hl)
    exact ⟨v', w', h1, .inr ⟨P ++ R, by rw [List.map_append, h2], h3, h4⟩, h5⟩
theorem wp_append_cat {o : Oper} {a : Act} {K : Act → World → Prop} {Q0 : Exit → Act → World → Prop} (w : World) (s x : Operand) (t : TypeId)
    (ho : o.op = .call { callee := .builtin .append, args := #[s, x], argTypes := #[t, t] }) (htt : Try.prog.underlying t = some (.slice 48))
    (base : Nat) (v : Value) (l m : List Ent) {A : Option Addr} {n c : Nat} (hs : a.eval s = v) (hx : a.eval x = .slice A n c) (h : Cat base w v l)
    (g : Ents w base (.slice A n c) m) (hb : base ≤ w.heap.size) (hl : l.length + m.length ≤ 4000)
    (k : ∀ v' w', Cat base w' v' (l ++ m) → Below base w w' → K (a.put o.dst v') w') : o.wp Try.prog a w K Q0 := by
  obtain ⟨v', w', h1, h2, h3⟩ := run_append_cat w base t o.type htt v l m h g hb hl
  unfold Oper.wp execOp
  simp only [ho, resolve, invoke, builtin, Sem.run_bind, Sem.run_pure, Result.andThen_ok, List.map_toArray, List.map_cons, List.map_nil, hs, hx, h1]
  exact k v' w' h2 h3
theorem wpList_append_rowE {ops : Array Oper} {rest : List Oper} {o : Oper} {a : Act} {Q0 : Exit → Act → World → Prop} (w : World) (hgd : o.guard = none) (s x : Operand) (t : TypeId)
    (htt : Try.prog.underlying t = some (.slice 48)) (ho : o.op = .call { callee := .builtin .append, args := #[s, x], argTypes := #[t, t] })
    (base : Nat) (v : Value) (P : List (Ent × Value)) (m : List Ent) {A : Option Addr} {n c : Nat} (hs : a.eval s = v) (hx : a.eval x = .slice A n c) (h : RowE base w v P) (hP : Lows base w P)
    (g : Ents w base (.slice A n c) m) (hb : base ≤ w.heap.size) (hl : P.length + m.length ≤ 4000)
    (k : ∀ v' w' R, R.map (·.1) = m → RowE base w' v' (P ++ R) → Lows base w' (P ++ R) → Below base w w' → wpList Try.prog ops Q0 rest (a.put o.dst v') w') : wpList Try.prog ops Q0 (o :: rest) a w := by
  refine wpList_plain hgd fun K hK => ?_
  obtain ⟨v', w', R, h1, h2, h3, h4, h5⟩ := run_append_rowE w base t o.type htt v P m h hP g hb hl
  unfold Oper.wp execOp
  simp only [ho, resolve, invoke, builtin, Sem.run_bind, Sem.run_pure, Result.andThen_ok, List.map_toArray, List.map_cons, List.map_nil, hs, hx, h1]
  exact hK _ _ (k v' w' R h2 h3 h4 h5)

set_option maxHeartbeats 4000000 in
set_option maxRecDepth 100000 in
theorem cut_nil (l inn : List Ent) (x : Value) (w : World) (hl : l.length ≤ 1000) (hin : inn.length ≤ 1000) (h1 : 0 ≤ 0) (h2 : 0 ≤ l.length) (hx : Ents w w.heap.size x inn) (ht : Ents w w.heap.size (.slice none l.length 0) l) (h0 : l.length = 0) :
    Calls Try.prog 31 #[.slice none l.length 0, .int .i64 0, .int .i64 0, x] w fun e w' => ∃ v', e = .returned v' ∧ Ents w' w'.heap.size v' (l.take 0 ++ inn ++ l.drop 0) ∧ Q w w' := by
  have hlc : l.length ≤ 0 := by
    obtain ⟨A, c', e, e0, -⟩ := ht
    injection e with e1 e2 e3
    omega
  have T1 : Hid (Ents w w.heap.size (.slice none 0 0) (l.take 0)) := Lib.hid (by have := ht.cutTake (i := 0) (by omega); exact this)
  have T2 : Hid (Ents w w.heap.size (.slice none 0 0) (l.drop 0)) := Lib.hid (by exact Ents.cutEnd (List.drop_eq_nil_iff.2 (by omega)))
  have HX := Lib.hid hx
  obtain ⟨Ax, cx, rfl⟩ := hx.form
  obtain ⟨N, hN⟩ : ∃ N, inn.length = N := ⟨_, rfl⟩
  rw [hN] at HX ⊢
  have HN := Lib.hid hN
  clear hN hx
  have q0 : Q w w.drew := (Q.refl w).drew
  have SN : Hid ((fun w' => Q w w') w.drew) := Lib.hid q0
  have k1 : (0 : Int) ≤ (0 : Int) := by omega
  have k2 : (0 : Int) ≤ 0 := by omega
  have k3 : (0 : Int) ≤ (0 : Int) := by omega
  have k4 : (0 : Int) ≤ (l.length : Int) := by omega
  clear ht
  go_enter Try.func31, Try.ntmps31
  go_wp2_with fail
  refine wp_region_held_drew (S := (fun w' => Q w w')) (by kernel_rfl) SN.out (fun hHeld => ?_)
  refine wpAnyH_take (i := 0) (oi := _) (v := ?_) rfl (by kernel_rfl) (by kernel_rfl) (by kernel_rfl) (fun _ _ _ h => h) (Or.inl ⟨by rfl, ?_⟩) (by assumption) ?_
  rotate_left
  · (intro wx hSw; (try dsimp only at hSw); go_simp; (try with_reducible rfl))
  (try simp only [Act.put, List.getElem_toArray, List.getElem_cons_zero, List.getElem_cons_succ, List.setIfInBounds_toArray, List.set_cons_zero, List.set_cons_succ])
  refine wpAnyH_take (i := 1) (oi := _) (v := ?_) rfl (by kernel_rfl) (by kernel_rfl) (by kernel_rfl) (fun _ _ _ h => h) (Or.inl ⟨by rfl, ?_⟩) (by assumption) ?_
  rotate_left
  · (intro wx hSw; (try dsimp only at hSw); go_simp; (try with_reducible rfl))
  (try simp only [Act.put, List.getElem_toArray, List.getElem_cons_zero, List.getElem_cons_succ, List.setIfInBounds_toArray, List.set_cons_zero, List.set_cons_succ])
  refine wpAnyH_take (i := 2) (oi := _) (v := ?_) rfl (by kernel_rfl) (by kernel_rfl) (by kernel_rfl) (fun _ _ _ h => h) (Or.inl ⟨by rfl, ?_⟩) (by assumption) ?_
  rotate_left
  · (intro wx hSw; (try dsimp only at hSw); go_simp; (try with_reducible rfl))
  (try simp only [Act.put, List.getElem_toArray, List.getElem_cons_zero, List.getElem_cons_succ, List.setIfInBounds_toArray, List.set_cons_zero, List.set_cons_succ])
  refine wpAnyH_take (i := 3) (oi := _) (v := .slice none 0 0) rfl (by kernel_rfl) (by kernel_rfl) (by kernel_rfl) (fun _ _ _ h => h) (Or.inl ⟨by rfl, ?_⟩) (by assumption) ?_
  · (intro wx hSw; (try dsimp only at hSw); go_simp; (try omega); (try simp [*]); (try omega))
  (try simp only [Act.put, List.getElem_toArray, List.getElem_cons_zero, List.getElem_cons_succ, List.setIfInBounds_toArray, List.set_cons_zero, List.set_cons_succ])
  refine wpAnyH_take (i := 4) (oi := _) (v := ?_) rfl (by kernel_rfl) (by kernel_rfl) (by kernel_rfl) (fun _ _ _ h => h) (Or.inl ⟨by rfl, ?_⟩) (by assumption) ?_
  rotate_left
  · (intro wx hSw; (try dsimp only at hSw); go_simp; (try with_reducible rfl))
  (try simp only [Act.put, List.getElem_toArray, List.getElem_cons_zero, List.getElem_cons_succ, List.setIfInBounds_toArray, List.set_cons_zero, List.set_cons_succ])
  refine wpAnyH_take (i := 6) (oi := _) (v := ?_) rfl (by kernel_rfl) (by kernel_rfl) (by kernel_rfl) (fun _ _ _ h => h) (Or.inl ⟨by rfl, ?_⟩) (by assumption) ?_
  rotate_left
  · (intro wx hSw; (try dsimp only at hSw); go_simp; (try with_reducible rfl))
  (try simp only [Act.put, List.getElem_toArray, List.getElem_cons_zero, List.getElem_cons_succ, List.setIfInBounds_toArray, List.set_cons_zero, List.set_cons_succ])
  refine wpAnyH_take (i := 7) (oi := _) (v := ?_) rfl (by kernel_rfl) (by kernel_rfl) (by kernel_rfl) (fun _ _ _ h => h) (Or.inl ⟨by rfl, ?_⟩) (by assumption) ?_
  rotate_left
  · (intro wx hSw; (try dsimp only at hSw); go_simp; (try with_reducible rfl))
  (try simp only [Act.put, List.getElem_toArray, List.getElem_cons_zero, List.getElem_cons_succ, List.setIfInBounds_toArray, List.set_cons_zero, List.set_cons_succ])
  refine wpAnyH_take (i := 8) (oi := _) (v := .slice none 0 0) rfl (by kernel_rfl) (by kernel_rfl) (by kernel_rfl) (fun _ _ _ h => h) (Or.inl ⟨by rfl, ?_⟩) (by assumption) ?_
  · (intro wx hSw; (try dsimp only at hSw); go_simp; (try omega); (try simp [*]); (try omega))
  (try simp only [Act.put, List.getElem_toArray, List.getElem_cons_zero, List.getElem_cons_succ, List.setIfInBounds_toArray, List.set_cons_zero, List.set_cons_succ])
  refine wpAnyH_ready (rs := [5]) (by kernel_rfl) (by simp) ?_
  refine AllReadyH.cons (o := _) rfl (fun K hK => ?_) AllReadyH.nil
  rw [if_pos (by rfl)]
  refine wp_append_cat _ _ _ 22 rfl Try.underlying22 w.heap.size _ (l.take 0) inn rfl rfl (Cat.read T1.out (Q.refl w).drew (by rw [List.length_take]; omega)) (HX.out.below (Q.refl w).drew) (Nat.le_refl _) (by have := HN.out; rw [List.length_take]; omega) ?_
  intro v1 w1 o1 b1
  have s1 := b1.size
  refine hK.out _ _ (by exact q0.trans b1) (fun hHeld => ?_)
  clear hK K
  (try simp only [Act.put, List.getElem_toArray, List.getElem_cons_zero, List.getElem_cons_succ, List.setIfInBounds_toArray, List.set_cons_zero, List.set_cons_succ])
  refine wpAnyH_ready (rs := [9]) (by kernel_rfl) (by simp) ?_
  refine AllReadyH.cons (o := _) rfl (fun K hK => ?_) AllReadyH.nil
  rw [if_pos (by rfl)]
  refine wp_append_cat _ _ _ 22 rfl Try.underlying22 w.heap.size _ (l.take 0 ++ inn) (l.drop 0) rfl rfl o1 (T2.out.below (q0.trans b1)) s1 (by have := HN.out; rw [List.length_append, List.length_take, List.length_drop]; omega) ?_
  intro v2 w2 o2 b2
  have b3 : Q w w2 := (q0.trans b1).trans' b2
  refine hK.out _ _ b3 (fun hHeld => ?_)
  clear hK K
  (try simp only [Act.put, List.getElem_toArray, List.getElem_cons_zero, List.getElem_cons_succ, List.setIfInBounds_toArray, List.set_cons_zero, List.set_cons_succ])
  refine wpAnyH_take (i := 10) (oi := _) (v := ?_) rfl (by kernel_rfl) (by kernel_rfl) (by kernel_rfl) (fun _ _ _ h => h) (Or.inl ⟨by rfl, ?_⟩) (by assumption) ?_
  rotate_left
  · (intro wx hSw; (try dsimp only at hSw); go_simp; (try with_reducible rfl))
  (try simp only [Act.put, List.getElem_toArray, List.getElem_cons_zero, List.getElem_cons_succ, List.setIfInBounds_toArray, List.set_cons_zero, List.set_cons_succ])
  refine wpAnyH_done (by kernel_rfl) ?_ _
  go_wp2
  go_ret
  exact ⟨_, rfl, o2.ents b3.size, b3⟩
set_option maxHeartbeats 4000000 in
set_option maxRecDepth 100000 in
theorem cut_end (l inn : List Ent) (a : Addr) (c lo hi : Nat) (x : Value) (w : World) (hl : l.length ≤ 1000) (hin : inn.length ≤ 1000) (h1 : lo ≤ hi) (h2 : hi ≤ l.length) (hx : Ents w w.heap.size x inn) (ht : Ents w w.heap.size (.slice (some a) l.length c) l) (hc : c = hi) :
    Calls Try.prog 31 #[.slice (some a) l.length c, .int .i64 (lo : Nat), .int .i64 (hi : Nat), x] w fun e w' => ∃ v', e = .returned v' ∧ Ents w' w'.heap.size v' (l.take lo ++ inn ++ l.drop hi) ∧ Q w w' := by
  have hcl : l.length = c := by
    obtain ⟨A, c', e, e0, -⟩ := ht
    injection e with e1 e2 e3
    omega
  have hcn : c - hi = 0 := by omega
  have hlc : l.length ≤ c := by
    obtain ⟨A, c', e, e0, -⟩ := ht
    injection e with e1 e2 e3
    omega
  have T1 : Hid (Ents w w.heap.size (.slice (some a) lo lo) (l.take lo)) := Lib.hid (by have := ht.cutTake (i := lo) (by omega); exact this)
  have T2 : Hid (Ents w w.heap.size (.slice (some a) 0 0) (l.drop hi)) := Lib.hid (by exact Ents.cutEnd (List.drop_eq_nil_iff.2 (by omega)))
  have HX := Lib.hid hx
  obtain ⟨Ax, cx, rfl⟩ := hx.form
  obtain ⟨N, hN⟩ : ∃ N, inn.length = N := ⟨_, rfl⟩
  rw [hN] at HX ⊢
  have HN := Lib.hid hN
  clear hN hx
  have q0 : Q w w.drew := (Q.refl w).drew
  have SN : Hid ((fun w' => Q w w') w.drew) := Lib.hid q0
  have k1 : (0 : Int) ≤ (lo : Int) := by omega
  have k2 : (lo : Int) ≤ ((c : Nat) : Int) := by omega
  have k3 : (0 : Int) ≤ (hi : Int) := by omega
  have k4 : (hi : Int) ≤ (l.length : Int) := by omega
  clear ht
  go_enter Try.func31, Try.ntmps31
  go_wp2_with fail
  refine wp_region_held_drew (S := (fun w' => Q w w')) (by kernel_rfl) SN.out (fun hHeld => ?_)
  refine wpAnyH_take (i := 0) (oi := _) (v := ?_) rfl (by kernel_rfl) (by kernel_rfl) (by kernel_rfl) (fun _ _ _ h => h) (Or.inl ⟨by rfl, ?_⟩) (by assumption) ?_
  rotate_left
  · (intro wx hSw; (try dsimp only at hSw); go_simp; (try with_reducible rfl))
  (try simp only [Act.put, List.getElem_toArray, List.getElem_cons_zero, List.getElem_cons_succ, List.setIfInBounds_toArray, List.set_cons_zero, List.set_cons_succ])
  refine wpAnyH_take (i := 1) (oi := _) (v := ?_) rfl (by kernel_rfl) (by kernel_rfl) (by kernel_rfl) (fun _ _ _ h => h) (Or.inl ⟨by rfl, ?_⟩) (by assumption) ?_
  rotate_left
  · (intro wx hSw; (try dsimp only at hSw); go_simp; (try with_reducible rfl))
  (try simp only [Act.put, List.getElem_toArray, List.getElem_cons_zero, List.getElem_cons_succ, List.setIfInBounds_toArray, List.set_cons_zero, List.set_cons_succ])
  refine wpAnyH_take (i := 2) (oi := _) (v := ?_) rfl (by kernel_rfl) (by kernel_rfl) (by kernel_rfl) (fun _ _ _ h => h) (Or.inl ⟨by rfl, ?_⟩) (by assumption) ?_
  rotate_left
  · (intro wx hSw; (try dsimp only at hSw); go_simp; (try with_reducible rfl))
  (try simp only [Act.put, List.getElem_toArray, List.getElem_cons_zero, List.getElem_cons_succ, List.setIfInBounds_toArray, List.set_cons_zero, List.set_cons_succ])
  refine wpAnyH_take (i := 3) (oi := _) (v := .slice (some a) lo lo) rfl (by kernel_rfl) (by kernel_rfl) (by kernel_rfl) (fun _ _ _ h => h) (Or.inl ⟨by rfl, ?_⟩) (by assumption) ?_
  · (intro wx hSw; (try dsimp only at hSw); go_simp; (try omega); (try simp [*]); (try omega))
  (try simp only [Act.put, List.getElem_toArray, List.getElem_cons_zero, List.getElem_cons_succ, List.setIfInBounds_toArray, List.set_cons_zero, List.set_cons_succ])
  refine wpAnyH_take (i := 4) (oi := _) (v := ?_) rfl (by kernel_rfl) (by kernel_rfl) (by kernel_rfl) (fun _ _ _ h => h) (Or.inl ⟨by rfl, ?_⟩) (by assumption) ?_
  rotate_left
  · (intro wx hSw; (try dsimp only at hSw); go_simp; (try with_reducible rfl))
  (try simp only [Act.put, List.getElem_toArray, List.getElem_cons_zero, List.getElem_cons_succ, List.setIfInBounds_toArray, List.set_cons_zero, List.set_cons_succ])
  refine wpAnyH_take (i := 6) (oi := _) (v := ?_) rfl (by kernel_rfl) (by kernel_rfl) (by kernel_rfl) (fun _ _ _ h => h) (Or.inl ⟨by rfl, ?_⟩) (by assumption) ?_
  rotate_left
  · (intro wx hSw; (try dsimp only at hSw); go_simp; (try with_reducible rfl))
  (try simp only [Act.put, List.getElem_toArray, List.getElem_cons_zero, List.getElem_cons_succ, List.setIfInBounds_toArray, List.set_cons_zero, List.set_cons_succ])
  refine wpAnyH_take (i := 7) (oi := _) (v := ?_) rfl (by kernel_rfl) (by kernel_rfl) (by kernel_rfl) (fun _ _ _ h => h) (Or.inl ⟨by rfl, ?_⟩) (by assumption) ?_
  rotate_left
  · (intro wx hSw; (try dsimp only at hSw); go_simp; (try with_reducible rfl))
  (try simp only [Act.put, List.getElem_toArray, List.getElem_cons_zero, List.getElem_cons_succ, List.setIfInBounds_toArray, List.set_cons_zero, List.set_cons_succ])
  refine wpAnyH_take (i := 8) (oi := _) (v := .slice (some a) 0 0) rfl (by kernel_rfl) (by kernel_rfl) (by kernel_rfl) (fun _ _ _ h => h) (Or.inl ⟨by rfl, ?_⟩) (by assumption) ?_
  · (intro wx hSw; (try dsimp only at hSw); go_simp; (try omega); (try simp [*]); (try omega))
  (try simp only [Act.put, List.getElem_toArray, List.getElem_cons_zero, List.getElem_cons_succ, List.setIfInBounds_toArray, List.set_cons_zero, List.set_cons_succ])
  refine wpAnyH_ready (rs := [5]) (by kernel_rfl) (by simp) ?_
  refine AllReadyH.cons (o := _) rfl (fun K hK => ?_) AllReadyH.nil
  rw [if_pos (by rfl)]
  refine wp_append_cat _ _ _ 22 rfl Try.underlying22 w.heap.size _ (l.take lo) inn rfl rfl (Cat.read T1.out (Q.refl w).drew (by rw [List.length_take]; omega)) (HX.out.below (Q.refl w).drew) (Nat.le_refl _) (by have := HN.out; rw [List.length_take]; omega) ?_
  intro v1 w1 o1 b1
  have s1 := b1.size
  refine hK.out _ _ (by exact q0.trans b1) (fun hHeld => ?_)
  clear hK K
  (try simp only [Act.put, List.getElem_toArray, List.getElem_cons_zero, List.getElem_cons_succ, List.setIfInBounds_toArray, List.set_cons_zero, List.set_cons_succ])
  refine wpAnyH_ready (rs := [9]) (by kernel_rfl) (by simp) ?_
  refine AllReadyH.cons (o := _) rfl (fun K hK => ?_) AllReadyH.nil
  rw [if_pos (by rfl)]
  refine wp_append_cat _ _ _ 22 rfl Try.underlying22 w.heap.size _ (l.take lo ++ inn) (l.drop hi) rfl rfl o1 (T2.out.below (q0.trans b1)) s1 (by have := HN.out; rw [List.length_append, List.length_take, List.length_drop]; omega) ?_
  intro v2 w2 o2 b2
  have b3 : Q w w2 := (q0.trans b1).trans' b2
  refine hK.out _ _ b3 (fun hHeld => ?_)
  clear hK K
  (try simp only [Act.put, List.getElem_toArray, List.getElem_cons_zero, List.getElem_cons_succ, List.setIfInBounds_toArray, List.set_cons_zero, List.set_cons_succ])
  refine wpAnyH_take (i := 10) (oi := _) (v := ?_) rfl (by kernel_rfl) (by kernel_rfl) (by kernel_rfl) (fun _ _ _ h => h) (Or.inl ⟨by rfl, ?_⟩) (by assumption) ?_
  rotate_left
  · (intro wx hSw; (try dsimp only at hSw); go_simp; (try with_reducible rfl))
  (try simp only [Act.put, List.getElem_toArray, List.getElem_cons_zero, List.getElem_cons_succ, List.setIfInBounds_toArray, List.set_cons_zero, List.set_cons_succ])
  refine wpAnyH_done (by kernel_rfl) ?_ _
  go_wp2
  go_ret
  exact ⟨_, rfl, o2.ents b3.size, b3⟩
set_option maxHeartbeats 4000000 in
set_option maxRecDepth 100000 in
theorem cut_in (l inn : List Ent) (a : Addr) (c lo hi : Nat) (x : Value) (w : World) (hl : l.length ≤ 1000) (hin : inn.length ≤ 1000) (h1 : lo ≤ hi) (h2 : hi ≤ l.length) (hx : Ents w w.heap.size x inn) (ht : Ents w w.heap.size (.slice (some a) l.length c) l) (hc : c ≠ hi) :
    Calls Try.prog 31 #[.slice (some a) l.length c, .int .i64 (lo : Nat), .int .i64 (hi : Nat), x] w fun e w' => ∃ v', e = .returned v' ∧ Ents w' w'.heap.size v' (l.take lo ++ inn ++ l.drop hi) ∧ Q w w' := by
  have hlc : l.length ≤ c := by
    obtain ⟨A, c', e, e0, -⟩ := ht
    injection e with e1 e2 e3
    omega
  have T1 : Hid (Ents w w.heap.size (.slice (some a) lo lo) (l.take lo)) := Lib.hid (by have := ht.cutTake (i := lo) (by omega); exact this)
  have T2 : Hid (Ents w w.heap.size (.slice (some (a.add (hi * 2))) (l.length - hi) (c - hi)) (l.drop hi)) := Lib.hid (by exact ht.cutDrop (by omega))
  have HX := Lib.hid hx
  obtain ⟨Ax, cx, rfl⟩ := hx.form
  obtain ⟨N, hN⟩ : ∃ N, inn.length = N := ⟨_, rfl⟩
  rw [hN] at HX ⊢
  have HN := Lib.hid hN
  clear hN hx
  have q0 : Q w w.drew := (Q.refl w).drew
  have SN : Hid ((fun w' => Q w w') w.drew) := Lib.hid q0
  have k1 : (0 : Int) ≤ (lo : Int) := by omega
  have k2 : (lo : Int) ≤ ((c : Nat) : Int) := by omega
  have k3 : (0 : Int) ≤ (hi : Int) := by omega
  have k4 : (hi : Int) ≤ (l.length : Int) := by omega
  clear ht
  go_enter Try.func31, Try.ntmps31
  go_wp2_with fail
  refine wp_region_held_drew (S := (fun w' => Q w w')) (by kernel_rfl) SN.out (fun hHeld => ?_)
  refine wpAnyH_take (i := 0) (oi := _) (v := ?_) rfl (by kernel_rfl) (by kernel_rfl) (by kernel_rfl) (fun _ _ _ h => h) (Or.inl ⟨by rfl, ?_⟩) (by assumption) ?_
  rotate_left
  · (intro wx hSw; (try dsimp only at hSw); go_simp; (try with_reducible rfl))
  (try simp only [Act.put, List.getElem_toArray, List.getElem_cons_zero, List.getElem_cons_succ, List.setIfInBounds_toArray, List.set_cons_zero, List.set_cons_succ])
  refine wpAnyH_take (i := 1) (oi := _) (v := ?_) rfl (by kernel_rfl) (by kernel_rfl) (by kernel_rfl) (fun _ _ _ h => h) (Or.inl ⟨by rfl, ?_⟩) (by assumption) ?_
  rotate_left
  · (intro wx hSw; (try dsimp only at hSw); go_simp; (try with_reducible rfl))
  (try simp only [Act.put, List.getElem_toArray, List.getElem_cons_zero, List.getElem_cons_succ, List.setIfInBounds_toArray, List.set_cons_zero, List.set_cons_succ])
  refine wpAnyH_take (i := 2) (oi := _) (v := ?_) rfl (by kernel_rfl) (by kernel_rfl) (by kernel_rfl) (fun _ _ _ h => h) (Or.inl ⟨by rfl, ?_⟩) (by assumption) ?_
  rotate_left
  · (intro wx hSw; (try dsimp only at hSw); go_simp; (try with_reducible rfl))
  (try simp only [Act.put, List.getElem_toArray, List.getElem_cons_zero, List.getElem_cons_succ, List.setIfInBounds_toArray, List.set_cons_zero, List.set_cons_succ])
  refine wpAnyH_take (i := 3) (oi := _) (v := .slice (some a) lo lo) rfl (by kernel_rfl) (by kernel_rfl) (by kernel_rfl) (fun _ _ _ h => h) (Or.inl ⟨by rfl, ?_⟩) (by assumption) ?_
  · (intro wx hSw; (try dsimp only at hSw); go_simp; (try omega); (try simp [*]); (try omega))
  (try simp only [Act.put, List.getElem_toArray, List.getElem_cons_zero, List.getElem_cons_succ, List.setIfInBounds_toArray, List.set_cons_zero, List.set_cons_succ])
  refine wpAnyH_take (i := 4) (oi := _) (v := ?_) rfl (by kernel_rfl) (by kernel_rfl) (by kernel_rfl) (fun _ _ _ h => h) (Or.inl ⟨by rfl, ?_⟩) (by assumption) ?_
  rotate_left
  · (intro wx hSw; (try dsimp only at hSw); go_simp; (try with_reducible rfl))
  (try simp only [Act.put, List.getElem_toArray, List.getElem_cons_zero, List.getElem_cons_succ, List.setIfInBounds_toArray, List.set_cons_zero, List.set_cons_succ])
  refine wpAnyH_take (i := 6) (oi := _) (v := ?_) rfl (by kernel_rfl) (by kernel_rfl) (by kernel_rfl) (fun _ _ _ h => h) (Or.inl ⟨by rfl, ?_⟩) (by assumption) ?_
  rotate_left
  · (intro wx hSw; (try dsimp only at hSw); go_simp; (try with_reducible rfl))
  (try simp only [Act.put, List.getElem_toArray, List.getElem_cons_zero, List.getElem_cons_succ, List.setIfInBounds_toArray, List.set_cons_zero, List.set_cons_succ])
  refine wpAnyH_take (i := 7) (oi := _) (v := ?_) rfl (by kernel_rfl) (by kernel_rfl) (by kernel_rfl) (fun _ _ _ h => h) (Or.inl ⟨by rfl, ?_⟩) (by assumption) ?_
  rotate_left
  · (intro wx hSw; (try dsimp only at hSw); go_simp; (try with_reducible rfl))
  (try simp only [Act.put, List.getElem_toArray, List.getElem_cons_zero, List.getElem_cons_succ, List.setIfInBounds_toArray, List.set_cons_zero, List.set_cons_succ])
  refine wpAnyH_take (i := 8) (oi := _) (v := .slice (some (a.add (hi * 2))) (l.length - hi) (c - hi)) rfl (by kernel_rfl) (by kernel_rfl) (by kernel_rfl) (fun _ _ _ h => h) (Or.inl ⟨by rfl, ?_⟩) (by assumption) ?_
  · (intro wx hSw; (try dsimp only at hSw); go_simp; (try omega); (try simp [*]); (try omega))
  (try simp only [Act.put, List.getElem_toArray, List.getElem_cons_zero, List.getElem_cons_succ, List.setIfInBounds_toArray, List.set_cons_zero, List.set_cons_succ])
  refine wpAnyH_ready (rs := [5]) (by kernel_rfl) (by simp) ?_
  refine AllReadyH.cons (o := _) rfl (fun K hK => ?_) AllReadyH.nil
  rw [if_pos (by rfl)]
  refine wp_append_cat _ _ _ 22 rfl Try.underlying22 w.heap.size _ (l.take lo) inn rfl rfl (Cat.read T1.out (Q.refl w).drew (by rw [List.length_take]; omega)) (HX.out.below (Q.refl w).drew) (Nat.le_refl _) (by have := HN.out; rw [List.length_take]; omega) ?_
  intro v1 w1 o1 b1
  have s1 := b1.size
  refine hK.out _ _ (by exact q0.trans b1) (fun hHeld => ?_)
  clear hK K
  (try simp only [Act.put, List.getElem_toArray, List.getElem_cons_zero, List.getElem_cons_succ, List.setIfInBounds_toArray, List.set_cons_zero, List.set_cons_succ])
  refine wpAnyH_ready (rs := [9]) (by kernel_rfl) (by simp) ?_
  refine AllReadyH.cons (o := _) rfl (fun K hK => ?_) AllReadyH.nil
  rw [if_pos (by rfl)]
  refine wp_append_cat _ _ _ 22 rfl Try.underlying22 w.heap.size _ (l.take lo ++ inn) (l.drop hi) rfl rfl o1 (T2.out.below (q0.trans b1)) s1 (by have := HN.out; rw [List.length_append, List.length_take, List.length_drop]; omega) ?_
  intro v2 w2 o2 b2
  have b3 : Q w w2 := (q0.trans b1).trans' b2
  refine hK.out _ _ b3 (fun hHeld => ?_)
  clear hK K
  (try simp only [Act.put, List.getElem_toArray, List.getElem_cons_zero, List.getElem_cons_succ, List.setIfInBounds_toArray, List.set_cons_zero, List.set_cons_succ])
  refine wpAnyH_take (i := 10) (oi := _) (v := ?_) rfl (by kernel_rfl) (by kernel_rfl) (by kernel_rfl) (fun _ _ _ h => h) (Or.inl ⟨by rfl, ?_⟩) (by assumption) ?_
  rotate_left
  · (intro wx hSw; (try dsimp only at hSw); go_simp; (try with_reducible rfl))
  (try simp only [Act.put, List.getElem_toArray, List.getElem_cons_zero, List.getElem_cons_succ, List.setIfInBounds_toArray, List.set_cons_zero, List.set_cons_succ])
  refine wpAnyH_done (by kernel_rfl) ?_ _
  go_wp2
  go_ret
  exact ⟨_, rfl, o2.ents b3.size, b3⟩
theorem cut_any (l inn : List Ent) (lo hi : Nat) (v x : Value) (w : World) (hl : l.length ≤ 1000) (hin : inn.length ≤ 1000) (h1 : lo ≤ hi) (h2 : hi ≤ l.length) (hx : Ents w w.heap.size x inn) (ht : Ents w w.heap.size v l) :
    Calls Try.prog 31 #[v, .int .i64 (lo : Nat), .int .i64 (hi : Nat), x] w fun e w' => ∃ v', e = .returned v' ∧ Ents w' w'.heap.size v' (l.take lo ++ inn ++ l.drop hi) ∧ Q w w' := by
  obtain ⟨A, c, rfl⟩ := ht.form
  cases A with
  | none =>
    have hc : c = 0 ∧ l.length = 0 := by
      obtain ⟨A', c', e, e0, ez, -, -⟩ := ht
      injection e with e1 e2 e3
      have := ez e1.symm
      exact ⟨by omega, by omega⟩
    obtain ⟨rfl, h0⟩ := hc
    have e1 : lo = 0 := by omega
    have e2 : hi = 0 := by omega
    subst e1 e2
    exact cut_nil l inn x w hl hin h1 h2 hx ht h0
  | some a =>
    by_cases hc : c = hi
    · exact cut_end l inn a c lo hi x w hl hin h1 h2 hx ht hc
    · exact cut_in l inn a c lo hi x w hl hin h1 h2 hx ht hc
def oneK (key : ByteArray) (m : List Ver) : List Ent := if m = [] then [] else [⟨key, m⟩]
set_option maxHeartbeats 1000000 in
/-- The entries of a key with these versions: one, or none. -/
theorem entries_any (key : ByteArray) (m : List Ver) (v : Value) (w : World) (hk : key.size ≤ maxLen) (hm : m.length ≤ 1000) (ht : Vers w w.heap.size v m) :
    Calls Try.prog 32 #[.string key, v] w fun e w' => ∃ v', e = .returned v' ∧ Ents w' w'.heap.size v' (oneK key m) ∧ Q w w' := by
  have HT := Lib.hid ht
  obtain ⟨A, c, rfl⟩ := ht.form
  obtain ⟨N, hN⟩ : ∃ N, m.length = N := ⟨_, rfl⟩
  rw [hN] at HT hm ⊢
  by_cases h0 : N = 0
  · have HV : Hid (oneK key m = []) := Lib.hid (if_pos (List.length_eq_zero_iff.1 (by omega)))
    have hz : (N : Int) = 0 := by omega
    clear ht hN
    subst h0
    go_enter Try.func32, Try.ntmps32
    go_wp2
    go_ret
    exact ⟨_, rfl, by rw [HV.out]; exact Ents.nil _ _, Q.refl _⟩
  · have HV : Hid (oneK key m = [⟨key, m⟩]) := Lib.hid (if_neg (by rintro rfl; simp at hN; omega))
    have HN := Lib.hid hN
    have hz : ¬ (N : Int) = 0 := by omega
    have q0 : Q w (w.alloc (.cells #[.string key, .slice A N c] 48)) := (Q.refl w).alloc _
    have HE : Hid (Ents (w.alloc (.cells #[.string key, .slice A N c] 48)) (w.alloc (.cells #[.string key, .slice A N c] 48)).heap.size (.slice (some ⟨w.heap.size, 0, none⟩) 1 1) [⟨key, m⟩]) := Lib.hid (by
      refine ⟨_, _, rfl, Nat.le_refl _, (by simp), ?_, fun k hk => ?_⟩
      · intro x hx
        obtain rfl : x = ⟨key, m⟩ := by simpa using hx
        exact ⟨hk, by show m.length ≤ _; rw [HN.out]; unfold maxLen; omega⟩
      · have k0 : k = 0 := by simpa using hk
        subst k0
        refine ⟨_, rfl, by simp, ?_, .slice A N c, ?_, HT.out.on q0⟩
        · simp [Addr.add]
        · simp [Addr.add])
    clear ht hN
    go_enter Try.func32, Try.ntmps32
    go_wp2
    go_ret
    exact ⟨_, rfl, by rw [HV.out]; exact HE.out, q0⟩
set_option maxHeartbeats 1000000 in
/-- What slices.Clone makes of entries: a row of its own. -/
theorem cloneE_any (l : List Ent) (v : Value) (w : World) (hl : l.length ≤ 4000) (ht : Ents w w.heap.size v l) :
    Calls Try.prog 45 #[v] w fun e w' => ∃ v' P, e = .returned v' ∧ P.map (·.1) = l ∧ RowE w.heap.size w' v' P ∧ Lows w.heap.size w' P ∧ Q w w' := by
  have HT := Lib.hid ht
  obtain ⟨A, c, rfl⟩ := ht.form
  cases A with
  | none =>
    have hc : c = 0 ∧ l = [] := by
      obtain ⟨A', c', e, e0, ez, -, -⟩ := ht
      injection e with e1 e2 e3
      have := ez e1.symm
      exact ⟨by omega, List.length_eq_zero_iff.1 (by omega)⟩
    obtain ⟨rfl, rfl⟩ := hc
    simp only [List.length_nil]
    have he := fun w => Lib.run_eql_slice_nil (P := Try.prog) w 22 48 none 0 0 0 0 Try.underlying22
    go_enter Try.func45, Try.ntmps45
    go_wp2
    go_ret
    exact ⟨_, [], rfl, rfl, World.ownsRow_nil _ _ _ _, (by intro p hp; simp at hp), Q.refl _⟩
  | some a =>
    have q0 := (Q.refl w).alloc (.cells #[] 48)
    have hown : RowE w.heap.size (w.alloc (.cells #[] 48)) (.slice (some ⟨w.heap.size, 0, none⟩) 0 0) [] := World.ownsRow_made w #[] 0 (Nat.le_refl _) (by unfold maxLen; omega) (by simp)
    have HO := Lib.hid hown
    have he := fun w => Lib.run_eql_slice_nil (P := Try.prog) w 22 48 (some a) l.length c 0 0 Try.underlying22
    clear ht hown
    go_enter Try.func45, Try.ntmps45
    go_wp2_with (at_builtin; refine wpList_append_rowE _ rfl _ _ 22 Try.underlying22 rfl w.heap.size _ [] l rfl rfl HO.out (by intro p hp; simp at hp) (HT.out.below q0) ?hb ?ha ?_; (case hb => simp); (case ha => (try simp); omega); intro v2 w2 R2 m2 o2 f2 g2; have b2 := q0.trans' g2; clear g2)
    go_ret
    exact ⟨_, _, rfl, m2, by simpa using o2, by simpa using f2, b2⟩
end Go.Proofs.Yteggmlefekpkfaa
