/-
  Contract of the program's Lay.
-/
import Derived.Test.YtpcanlafbcdmcaaKIter
import Derived.Lib.AppendStr
namespace Go.Proofs.Ytpcanlafbcdmcaa
set_option maxRecDepth 100000
open Go.ChangeShapes Go.WideShapes Go.ChangeAt Go.RowKit Go.Shelf
set_option linter.unusedVariables false
set_option linter.unusedSimpArgs false
set_option maxRecDepth 100000
attribute [local go_sem] Oper.semAt_some

theorem blks_any (s : ByteArray) (w : World) : Calls Try.prog 23 #[.string s] w fun e w' => e = .returned (itB 28 w.heap.size) ∧ w' = w.alloc (.cells #[.string s] 9) := by
  go_enter Try.func23, Try.ntmps23
  go_wp2
  go_ret
  exact ⟨rfl, rfl⟩
/-- The iterator's contract. -/
theorem blocks_stops (n : Nat) (hn : 1 ≤ n) (B : Nat) (s : ByteArray) (hs : s.size ≤ 12000) (K : Nat) (hK : K = manyK s.size) (w : World) (hb : Bx w B 9 #[.string s]) :
    SeqStopsK Fence.wide n Try.prog 28 #[.pointer (some ⟨B, 0, none⟩)] (fun x : Fin K => #[Value.int .i64 x.1, Value.string (mk (blkK (bl s) x.1))]) (fun _ _ => True) (fun ys => ys = prsK K) (fun pre => pre <+: prsK K) K w :=
  fun lp J Jx W hW hJ hJx hY h0 => blocks1_in n hn lp B s hs K hK J Jx hY W hJ ((hb.on hW).cell 0) (Nat.lt_of_lt_of_le hb.lt hW.size) h0
theorem bx_own {β : Type} (B : Nat) (t : TypeId) (f : β → Array Value) : Own (fun s W => Bx W B t (f s)) := fun s X Y row hs hg hrow =>
  (hg.block B (Bx.lt hs) (fun e' => by obtain ⟨o, ho, hc⟩ := hrow B e'.symm; rw [show X.heap[B]? = _ from hs] at ho; cases ho; cases hc)).trans hs
/-- A row of octets of one's own. -/
def RowO (base : Nat) (w : World) (v : Value) (l : List UInt8) : Prop := w.ownsRow base 5 1 v l.length (Lib.byteCells l)
theorem RowO.nil (base : Nat) (w : World) : RowO base w (.slice none 0 0) [] := World.ownsRow_nil w _ _ _
theorem RowO.on {base : Nat} {w w' : World} {v : Value} {l : List UInt8} (h : RowO base w v l) (q : Q w w') : RowO base w' v l := by
  unfold RowO at *
  exact h.kept q.grown (by cases v.ownBlock <;> simp)
theorem RowO.form {base : Nat} {w : World} {v : Value} {l : List UInt8} (h : RowO base w v l) : ∃ A n c, v = .slice A n c := by
  rcases h.2 with ⟨rfl, h0⟩ | ⟨g, cap, cur, rfl, -⟩
  · exact ⟨none, 0, 0, rfl⟩
  · exact ⟨_, _, _, rfl⟩
theorem RowO.lt {base : Nat} {w : World} {v : Value} {l : List UInt8} (h : RowO base w v l) : ∀ k, v.ownBlock = some k → base ≤ k ∧ k < w.heap.size := World.ownsRow.lt h
theorem rowO_own {β : Type} (base : Nat) (v : β → Value) (f : β → List UInt8) : Own (fun s W => RowO base W (v s) (f s)) := by
  rintro s X Y row hr hg hrow
  refine World.ownsRow.kept hr hg ?_
  rcases hr.2 with ⟨e, _⟩ | ⟨g, cap, cur, e, _, hgb, _⟩
  · left; rw [e]; rfl
  · refine .inr fun e' => ?_
    rw [e] at e'
    obtain ⟨o, ho, hc⟩ := hrow g (by simpa [Value.ownBlock] using e'.symm)
    rw [hgb] at ho; cases ho; cases hc
theorem RowO.set {base : Nat} {w : World} {v : Value} {l : List UInt8} (h : RowO base w v l) {b i : Nat} {u : Value} (hb : b < base) : RowO base (w.setCell ⟨b, i, none⟩ u) v l := by
  refine World.ownsRow.kept h (grown_set w b i u) ?_
  cases e : v.ownBlock with
  | none => exact .inl rfl
  | some k => refine .inr fun e2 => ?_; injection e2 with e2; have := (h.lt k e).1; omega
/-- What an append leaves. -/
theorem rowO_more {base : Nat} {W w1 : World} {v v' : Value} {l m : List UInt8} (hr : RowO base W v l) (hb : base ≤ W.heap.size)
    (hown : w1.ownsRow base 5 1 v' (l.length + m.length) (Lib.byteCells l ++ Lib.byteCells m)) (hg : W.grownBy w1 v.ownBlock) :
    RowO base w1 v' (l ++ m) ∧ (∀ k, k < base → w1.heap[k]? = W.heap[k]?) ∧ KeepsOthers W w1 ∧ Below base W w1 := by
  have hlow : ∀ k, k < base → w1.heap[k]? = W.heap[k]? := fun k hk => hg.block k (by omega) (fun e => by have := (hr.lt k e.symm).1; omega)
  refine ⟨by unfold RowO; rw [List.length_append, byteCells_append]; exact hown, hlow, ?_, ?_⟩
  · refine KeepsOthers.of_grownBy hg fun j o ej hj => ?_
    rcases hr.2 with ⟨rfl, _⟩ | ⟨g, cap, cur, rfl, _, hgb, _⟩
    · simp [Value.ownBlock] at ej
    · obtain rfl : g = j := by simpa [Value.ownBlock] using ej
      rw [hgb] at hj; cases hj; rfl
  · exact (Below.refl base W).grown hg hb fun j ej => (hr.lt j ej).1
theorem strCells_bl (s : ByteArray) : Lib.strCells s = Lib.byteCells (bl s) := rfl
/-- 'append(all, text...)', within a round. -/
theorem wpListIn_append_oct {F : Fence} {n : Nat} (w : World) {ops : Array Oper} {rest : List Oper} {o : Oper} {a : Act} {Q' : Exit → Act → World → Prop} (hgd : o.guard = none) (sl x : Operand)
    (ho : o.op = .call { callee := .builtin .append, args := #[sl, x], argTypes := #[45, 9] }) (base : Nat) (v : Value) (l : List UInt8) (s : ByteArray) (hs : a.eval sl = v) (hx : a.eval x = .string s)
    (hown : RowO base w v l) (hl : l.length ≤ 100000) (hsz : s.size ≤ 100000) (hb : base ≤ w.heap.size)
    (h : ∀ v' w', Hid (RowO base w' v' (l ++ bl s) ∧ (∀ k, k < base → w'.heap[k]? = w.heap[k]?) ∧ KeepsOthers w w' ∧ Below base w w') → wpListIn F n Try.prog ops Q' rest (a.put o.dst v') w') : wpListIn F n Try.prog ops Q' (o :: rest) a w := by
  refine wpListIn_plain hgd fun K hK => ?_
  obtain ⟨i0, hi0, hz0, hz1, hz2⟩ := info_parts info_u8
  obtain ⟨v', w', hr, h2, h3, -⟩ := Lib.run_append_own_string (P := Try.prog) w base 45 9 o.type 5 i0 Try.underlying45 Try.underlying9 hi0 hz0 hz1 hz2 v l.length _ hown s (by unfold maxLen; omega) (by omega) hb
  rw [strCells_bl, ← bl_length] at h2
  have E := rowO_more hown hb h2 h3
  unfold Oper.wpIn
  refine ⟨?_, ?_⟩
  · simp [Oper.about, ho, resolve, Target.leads, Sem.run_pure]
  · rw [Oper.semAt_plain F _ _ (by rw [ho]; intro c hc'; cases hc')]
    simp [execOp, ho, resolve, invoke, builtin, hs, hx, hr, Result.andThen]
    exact hK _ _ (h v' w' (Lib.hid E))
/-- The octets of some of a record's blocks. -/
def octK (s : ByteArray) {K : Nat} (pre : List (Fin K)) : List UInt8 := pre.flatMap fun i => blkK (bl s) i.1
theorem octK_length (s : ByteArray) {K : Nat} : ∀ (pre : List (Fin K)), (octK s pre).length = 64 * pre.length
  | [] => rfl
  | x :: r => by
    have ih := octK_length s r
    rw [octK] at ih ⊢
    rw [List.flatMap_cons, List.length_append, ih, blkK_length, List.length_cons]; omega
theorem octK_snoc (s : ByteArray) {K : Nat} (pre : List (Fin K)) (x : Fin K) : octK s (pre ++ [x]) = octK s pre ++ bl (mk (blkK (bl s) x.1)) := by
  rw [octK, List.flatMap_append, List.flatMap_singleton]; rfl
theorem octK_all (s : ByteArray) (K : Nat) (hK : K = manyK s.size) : mk (octK s (prsK K)) = joinK (layK s) := by
  have h := prsK_map K (fun i => mk (blkK (bl s) i))
  rw [joinK, layK, ← hK, ← h, List.flatMap_map]
  rfl
set_option maxHeartbeats 4000000 in
theorem layNo_any (s : ByteArray) (w : World) (hs : 12000 < s.size) : Calls Try.prog 11 #[.string s] w fun e w' => e = .returned (.tuple #[.string ⟨#[]⟩, .int .i64 6]) ∧ Q w w' := by
  have h1 : (12000 : Int) < (s.size : Int) := by omega
  go_enter Try.func11, Try.ntmps11
  go_wp2
  (try simp only [Exit.inBlock, Exit.then])
  go_ret2
  exact ⟨rfl, Q.refl _⟩
set_option maxHeartbeats 4000000 in
theorem layYes_any (s : ByteArray) (w : World) (hs : s.size ≤ 12000) : Calls Try.prog 11 #[.string s] w fun e w' => e = .returned (.tuple #[.string (joinK (layK s)), .int .i64 0]) ∧ Q w w' := by
  have h1 : ¬ (12000 : Int) < (s.size : Int) := by omega
  have BC := Lib.hid fun w => blks_any s w
  have hmany := manyK_le s.size
  refine (callsIn_wide (n := 9)).1 ?_
  refine callsIn_of_wp_marks Try.func11 rfl trivial ?_ rfl
  simp only [Try.ntmps11, List.size_toArray, List.length_cons, List.length_nil, Nat.reduceAdd, Nat.reduceSub, Array.replicate_succ, Array.replicate_zero, List.push_toArray, List.append_toArray, List.nil_append, List.cons_append]
  gi_wp2_with (refine ⟨trivial, ?_⟩; gi_at_call 23; refine (callsIn_wide.2 (BC.out _)).mono ?_; rintro e4 w4 ⟨rfl, rfl⟩)
  obtain ⟨P, hP⟩ : ∃ P, P = w.heap.size := ⟨_, rfl⟩
  have bO : Bx ((w.alloc (.cells #[.slice none 0 0] 45)).alloc (.cells #[.string s] 9)) P 45 #[.slice none 0 0] := by rw [hP]; exact (Bx.new w _ _).alloc _
  have bS : Bx ((w.alloc (.cells #[.slice none 0 0] 45)).alloc (.cells #[.string s] 9)) (P + 1) 9 #[.string s] := by
    have := Bx.new (w.alloc (.cells #[.slice none 0 0] 45)) 9 #[.string s]
    rw [World.size_alloc, ← hP] at this
    exact this
  have q0 : Q w ((w.alloc (.cells #[.slice none 0 0] 45)).alloc (.cells #[.string s] 9)) := ((Q.refl w).alloc _).alloc _
  have hsz : ((w.alloc (.cells #[.slice none 0 0] 45)).alloc (.cells #[.string s] 9)).heap.size = P + 2 := by rw [World.size_alloc, World.size_alloc, hP]
  obtain ⟨W0, hW0⟩ : ∃ W0, W0 = (w.alloc (.cells #[.slice none 0 0] 45)).alloc (.cells #[.string s] 9) := ⟨_, rfl⟩
  rw [← hW0] at bO bS q0 hsz ⊢
  rw [← hP]
  have HP : Hid (P = w.heap.size) := Lib.hid hP
  clear hW0 hP BC
  obtain ⟨K, hK⟩ : ∃ K, K = manyK s.size := ⟨_, rfl⟩
  rw [← hK] at hmany
  have h0 : 0 < K := by rw [hK]; exact manyK_pos hs
  have HA := Lib.hid (octK_all s K hK)
  refine wpIn_rangeFunc_ownG (F := Fence.wide) rfl (by omega) (gf := 28) (lb := #[.pointer (some ⟨P + 1, 0, none⟩)]) rfl trivial (enters_of Try.func28 (by kernel_rfl) rfl)
    (blocks_stops (9 - 1) (by omega) (P + 1) s hs K hK W0 bS) (fun _ _ => trivial) (fun _ _ _ _ _ _ _ _ => trivial) (Below.refl _ _) (fun _ => rfl)
    (fun pre W => (∃ v, Bx W P 45 #[v] ∧ RowO (P + 2) W v (octK s pre)) ∧ Below w.heap.size w W ∧ P + 2 ≤ W.heap.size)
    (fun _ _ _ => False)
    (OwnFrom.and (Own.from (fun s2 X Y row hs2 hg hr => by
      obtain ⟨v, h1, h2⟩ := hs2
      exact ⟨v, bx_own P 45 (fun _ : Unit => #[v]) () X Y row h1 hg hr, rowO_own (P + 2) (fun _ : Unit => v) (fun _ => octK s s2) () X Y row h2 hg hr⟩) _)
      (OwnFrom.and (ownFrom_below (by omega) (by rw [← HP.out]; omega)) (fun s2 X Y row hs2 hg hr => Nat.le_trans hs2 hg.size)))
    (fun _ _ _ _ _ hs2 _ _ => hs2)
    ⟨⟨.slice none 0 0, bO, RowO.nil _ _⟩, q0, by omega⟩
    (fun x => { tmps := #[.string s, undef, .string ⟨#[]⟩, .int .i64 0, .pointer (some ⟨P, 0, none⟩), undef, .string (mk (blkK (bl s) x.1)), .string s, .int .i64 s.size, .bool false, .string s, itB 28 (P + 1), .int .i64 x.1, .string (mk (blkK (bl s) x.1)), undef, undef, undef, undef, undef], defers := [] }) ?assign ?body ?done ?stop
  case assign =>
    intro lp x W K hK
    gi_wp2
    exact hK
  case body =>
    rintro lp pre x W ⟨⟨v, hv, hr⟩, hB, hWs⟩ hlt
    obtain ⟨A0, n0, cp0, rfl⟩ := hr.form
    have c0 := hv.cell 0
    simp only [List.getElem?_toArray, List.getElem?_cons_zero] at c0
    have hx : (mk (blkK (bl s) x.1)).size = 64 := by rw [mk_size, blkK_length]
    have hl := octK_length s pre
    have HE := Lib.hid (octK_snoc s pre x)
    obtain ⟨X, hX⟩ : ∃ X, X = mk (blkK (bl s) x.1) := ⟨_, rfl⟩
    rw [← hX] at hx HE ⊢
    clear hX
    gi_wp2_with (gi_at_builtin; refine wpListIn_append_oct W rfl _ _ rfl (P + 2) (.slice A0 n0 cp0) (octK s pre) X rfl rfl hr (by omega) (by omega) hWs ?_; intro v1 w1 HO; obtain ⟨A1, n1, cp1, rfl⟩ := HO.out.1.form; have b1 := hv.same (HO.out.2.1 P (by omega)); have c1 := b1.cell 0; have f1 := b1.frozen 0; simp only [List.getElem?_toArray, List.getElem?_cons_zero] at c1)
    obtain ⟨o1, o2, o3, o4⟩ := HO.out
    refine ⟨(o3.trans (KeepsOthers.setCell _ _ _)).from _, trivial, ⟨.slice A1 n1 cp1, b1.set 0 _, by rw [HE.out]; exact o1.set (by omega)⟩, ?_, ?_⟩
    · exact (hB.trans (Below.mono o4 (by have := HP.out; omega))).setCell (p := ⟨P, 0, none⟩) (by rw [← HP.out]; exact Nat.le_refl _) _
    · have := o4.size; simpa using Nat.le_trans hWs this
  case done =>
    rintro D ys W hD rfl ⟨⟨v, hv, hr⟩, hB, hWs⟩ hK2
    obtain ⟨A0, n0, cp0, rfl⟩ := hr.form
    have c0 := hv.cell 0
    simp only [List.getElem?_toArray, List.getElem?_cons_zero] at c0
    have hcv := conv_own hr (by rw [octK_length, prsK_length]; omega)
    rw [HA.out] at hcv
    have HH := Lib.hid hK2
    clear hK2 HA
    gi_wp2
    refine ⟨by simp, .inl ⟨_, _, rfl, run_takeDeferred HH.out, ?_⟩⟩
    refine ⟨.tuple #[.string (joinK (layK s)), .int .i64 0], ?_, rfl, hB.grown (grownBy_putObj' W D _) hB.size (fun k e => by cases e; rw [← HP.out]; omega)⟩
    simp [results, Try.results11, go_sem]
  case stop =>
    rintro D cc pre W hD hSp hf hK2
    exact hf.elim
end Go.Proofs.Ytpcanlafbcdmcaa
