/-
  A map of versions by their IDs, as the call makes it: what is laid in it, and the range over it.
-/
import Derived.Test.YtflfhigldkdlmaaVKeep
import Derived.Maps.RangeRun
import Derived.Maps.OwnSet
namespace Go.Proofs.Ytflfhigldkdlmaa
open Go.ChangeShapes Go.WideShapes Go.ChangeAt Go.RowKit
open Go.ChangeMaps (setBlock)
set_option linter.unusedVariables false
set_option linter.unusedSimpArgs false

abbrev mapT : Nat := 50
theorem run_checkKey_u (w : World) (e : Bool) (k : Int) : (Instr.checkKey e 10000 23 (.int .u64 k)).run Try.prog w = .ok () w := by
  rw [show (10000 : Nat) = 9999 + 1 from rfl, Instr.checkKey]
  simp [run_underlying Try.underlying23]
theorem run_findKey_u (w : World) (k : Int) (es : List MapEntry) (r : Option (Nat × Value)) (hf : Instr.findNow (.int .u64) (.int .u64 k) es 0 = some r) : (Instr.findKey 23 (.int .u64 k) es).run Try.prog w = .ok r w := by
  simp [Instr.findKey, run_underlying Try.underlying23, hf]
theorem findNow_none (k : Int) (es : List MapEntry) (h : ∀ e ∈ es, ∃ x : Int, e.key = .int .u64 x ∧ x ≠ k) : ∀ n, Instr.findNow (.int .u64) (.int .u64 k) es n = some none := by
  induction es with
  | nil => intro n; rfl
  | cons e r ih =>
    intro n
    obtain ⟨x, hx, hk⟩ := h e (by simp)
    have hb : (k == x) = false := by simpa using fun e => hk e.symm
    simp only [Instr.findNow, Instr.sameNow, hx, if_true, hb]
    exact ih (fun e he => h e (by simp [he])) (n + 1)
theorem run_insert_u (w : World) (b : Nat) (es : Array MapEntry) (clock : Nat) (k : Int) (f : Value) (hb : w.heap[b]? = some (.map es clock)) (hf : Instr.findNow (.int .u64) (.int .u64 k) es.toList 0 = some none) :
    (Instr.mapUpdate mapT (.map (some b)) (.int .u64 k) f).run Try.prog w = .ok () (setBlock w b (.map (es.push ⟨.int .u64 k, f, clock⟩) (clock + 1))) := by
  simp [Instr.mapUpdate, run_underlying Try.underlying50, MapKept.run_getObj_map hb, run_checkKey_u, run_findKey_u _ _ _ _ hf, MapKept.run_setObj_map _ hb, Result.andThen, setBlock]
theorem wpList_update_u {ops : Array Oper} {rest : List Oper} {o : Oper} {a : Act} {Q : Exit → Act → World → Prop} (w : World) (hgd : o.guard = none) (m k x : Operand) (ho : o.op = .mapUpdate mapT m k x)
    (b : Nat) (es : Array MapEntry) (clock : Nat) (n : Int) (f : Value) (hm : a.eval m = .map (some b)) (hk : a.eval k = .int .u64 n) (hx : a.eval x = f) (hb : w.heap[b]? = some (.map es clock)) (hf : Instr.findNow (.int .u64) (.int .u64 n) es.toList 0 = some none)
    (hK : wpList Try.prog ops Q rest (a.put o.dst undef) (setBlock w b (.map (es.push ⟨.int .u64 n, f, clock⟩) (clock + 1)))) : wpList Try.prog ops Q (o :: rest) a w := by
  refine wpList_plain hgd fun K' hK' => ?_
  unfold Oper.wp
  simp [execOp, ho, hm, hk, hx, run_insert_u w b es clock n f hb hf, Result.andThen]
  exact hK' _ _ hK
theorem run_range_u (w : World) (b : Nat) (es : Array MapEntry) (clock : Nat) (hb : w.heap[b]? = some (.map es clock)) :
    (Instr.range mapT (.map (some b))).run Try.prog w = .ok (.pointer (some ⟨w.heap.size, 0, none⟩)) (w.alloc (.mapIter (some b) clock #[] clock)) := by
  simp [Instr.range, run_underlying Try.underlying50, MapKept.run_getObj_map hb, Result.andThen]
theorem wpList_range_u {ops : Array Oper} {rest : List Oper} {o : Oper} {a : Act} {Q : Exit → Act → World → Prop} (w : World) (hgd : o.guard = none) (m : Operand) (ho : o.op = .range mapT m)
    (b : Nat) (es : Array MapEntry) (clock : Nat) (hm : a.eval m = .map (some b)) (hb : w.heap[b]? = some (.map es clock))
    (hK : wpList Try.prog ops Q rest (a.put o.dst (.pointer (some ⟨w.heap.size, 0, none⟩))) (w.alloc (.mapIter (some b) clock #[] clock))) : wpList Try.prog ops Q (o :: rest) a w := by
  refine wpList_plain hgd fun K' hK' => ?_
  unfold Oper.wp
  simp [execOp, ho, hm, run_range_u w b es clock hb, Result.andThen]
  exact hK' _ _ hK
theorem wpList_next_u {ops : Array Oper} {rest : List Oper} {o : Oper} {a : Act} {Q : Exit → Act → World → Prop} (w : World) (hgd : o.guard = none) (it : Operand) (ho : o.op = .next it false)
    (r b since c0 : Nat) (seen : Array Nat) (es : Array MapEntry) (clock : Nat) (hit : a.eval it = .pointer (some ⟨r, 0, none⟩))
    (hr : w.heap[r]? = some (.mapIter (some b) since seen c0)) (hb : w.heap[b]? = some (.map es clock)) (hold : ∀ x ∈ es.toList, x.born < since) (hsc : since ≤ c0)
    (hDone : (leftOf es seen).size = 0 → wpList Try.prog ops Q rest (a.put o.dst (.tuple #[.bool false])) w)
    (hMore : ∀ e ∈ (leftOf es seen).toList, ∀ w1, (w1 = w ∨ w1 = w.drew) → wpList Try.prog ops Q rest (a.put o.dst (.tuple #[.bool true, e.key, e.val])) (setBlock w1 r (.mapIter (some b) since (seen.push e.born) clock))) :
    wpList Try.prog ops Q (o :: rest) a w := by
  refine wpList_plain hgd fun K' hK' => ?_
  unfold Oper.wp
  rcases Go.run_next_at (P := Try.prog) w o.type r b since c0 seen es clock hr hb hold hsc with ⟨h0, hrun⟩ | ⟨e, he, w1, hw1, hrun⟩
  · simp [execOp, ho, hit, hrun, Result.andThen]
    exact hK' _ _ (hDone h0)
  · simp [execOp, ho, hit, hrun, Result.andThen]
    exact hK' _ _ (hMore e he w1 hw1)
theorem wpList_entry_u {ops : Array Oper} {rest : List Oper} {o : Oper} {a : Act} {Q : Exit → Act → World → Prop} (w : World) (hgd : o.guard = none) (it : Operand) (ho : o.op = .entry it)
    (r b since : Nat) (seen : Array Nat) (es : Array MapEntry) (clock : Nat) (e : MapEntry) (hit : a.eval it = .pointer (some ⟨r, 0, none⟩))
    (hr : w.heap[r]? = some (.mapIter (some b) since (seen.push e.born) clock)) (hb : w.heap[b]? = some (.map es clock)) (he : e ∈ es.toList) (hn : (es.toList.map (·.born)).Nodup)
    (hK : wpList Try.prog ops Q rest (a.put o.dst (.tuple #[e.key, e.val])) w) : wpList Try.prog ops Q (o :: rest) a w := by
  refine wpList_plain hgd fun K' hK' => ?_
  unfold Oper.wp
  simp [execOp, ho, hit, Go.run_entry_at (P := Try.prog) w r b since seen es clock e hr hb he hn, Result.andThen]
  exact hK' _ _ hK

/-- What is laid: each entry's key is an ID of 1 to i, and its value is the version that is found by it. -/
def LaidI (C : List Ver) (i : Nat) (es : Array MapEntry) (clock : Nat) : Prop :=
  (∀ e ∈ es.toList, e.born < clock ∧ ∃ x : Ver, e.key = .int .u64 (x.id : Nat) ∧ e.val = ver x ∧ x.id ≠ 0 ∧ x.id ≤ i ∧ findV C x.id = some x) ∧ (es.toList.map (·.born)).Nodup
theorem laid_nil : LaidI [] 0 #[] 0 := ⟨by simp, by simp⟩
theorem LaidI.none {C : List Ver} {i clock : Nat} {es : Array MapEntry} (h : LaidI C i es clock) : Instr.findNow (.int .u64) (.int .u64 ((i + 1 : Nat) : Int)) es.toList 0 = some none :=
  findNow_none _ _ (fun e he => by
    obtain ⟨-, x, hk, -, -, hx, -⟩ := h.1 e he
    exact ⟨_, hk, by omega⟩) 0
theorem LaidI.kept {C L : List Ver} {i clock : Nat} {es : Array MapEntry} (h : LaidI C i es clock) (k : Kept C i L) : LaidI L (i + 1) es clock := by
  refine ⟨fun e he => ?_, h.2⟩
  obtain ⟨h0, x, h1, h2, h3, h4, h5⟩ := h.1 e he
  exact ⟨h0, x, h1, h2, h3, by omega, k.2 x h3 h4 h5⟩
theorem LaidI.more {C : List Ver} {i clock : Nat} {es : Array MapEntry} (h : LaidI C i es clock) : LaidI C (i + 1) es clock := by
  refine ⟨fun e he => ?_, h.2⟩
  obtain ⟨h0, x, h1, h2, h3, h4, h5⟩ := h.1 e he
  exact ⟨h0, x, h1, h2, h3, by omega, h5⟩
theorem LaidI.push {C : List Ver} {i clock : Nat} {es : Array MapEntry} {x : Ver} (h : LaidI C i es clock) (h0 : x.id ≠ 0) (hi : x.id ≤ i) (hf : findV C x.id = some x) : LaidI C i (es.push ⟨.int .u64 (x.id : Nat), ver x, clock⟩) (clock + 1) := by
  refine ⟨fun e he => ?_, ?_⟩
  · rw [Array.toList_push, List.mem_append] at he
    rcases he with he | he
    · obtain ⟨k0, k⟩ := h.1 e he
      exact ⟨by omega, k⟩
    · simp at he
      subst he
      exact ⟨by show clock < clock + 1; omega, x, rfl, rfl, h0, hi, hf⟩
  · rw [Array.toList_push, List.map_append, List.nodup_append]
    refine ⟨h.2, by simp, fun a ha b hb => ?_⟩
    obtain ⟨e, he, rfl⟩ := List.mem_map.1 ha
    simp at hb
    have := (h.1 e he).1
    omega
/-- A map that is turned leaves all rows that lie elsewhere. -/
theorem OwnV.setBlockAt {base : Nat} {w : World} {v : Value} {l : List Ver} (h : OwnV base w v l) {g : Nat} {o : Obj} (hg : g < base) : OwnV base (setBlock w g o) v l := by
  obtain ⟨o1, o2⟩ := h
  refine ⟨o1, ?_⟩
  rcases o2 with h | ⟨g', cap, cur, e, hb, hh, r⟩
  · exact .inl h
  · refine .inr ⟨g', cap, cur, e, hb, ?_, r⟩
    show (w.heap.setIfInBounds g o)[g']? = _
    rw [Array.getElem?_setIfInBounds, if_neg (by omega)]
    exact hh
theorem oneV_form (i : Nat) (d : ByteArray) (m : Bool) (t : Int) : ∃ dd, oneV ⟨i, d, m, t⟩ = ⟨i, dd, m, t⟩ ∧ dd.size ≤ 2001 := by
  have := oneV_size ⟨i, d, m, t⟩
  unfold oneV at this ⊢
  split
  · rename_i h
    rw [if_pos h] at this
    exact ⟨_, rfl, this⟩
  · rename_i h
    rw [if_neg h] at this
    exact ⟨_, rfl, this⟩
/-- How many entries are left to the iterator of block r. -/
def leftIn (w : World) (r : Nat) (es : Array MapEntry) : Nat := match w.heap[r]? with
  | some (.mapIter _ _ seen _) => (leftOf es seen).size
  | _ => 0
theorem left_empty {es : Array MapEntry} {seen : Array Nat} (h : (leftOf es seen).size = 0) {e : MapEntry} (he : e ∈ (leftOf es seen).toList) : False := by
  rw [Array.eq_empty_of_size_eq_zero h] at he
  simp at he
theorem iter_q {a w w5 : World} (q : Q a w) (h : w5 = w ∨ w5 = w.drew) : Q a w5 := by
  rcases h with rfl | rfl
  · exact q
  · exact q.drew
theorem iter_at {w w5 : World} {r : Nat} {o : Obj} (hr : w.heap[r]? = some o) (h : w5 = w ∨ w5 = w.drew) : w5.heap[r]? = some o := by
  rcases h with rfl | rfl
  · exact hr
  · exact hr
theorem iter_set {w : World} {r : Nat} {o o' : Obj} (hr : w.heap[r]? = some o) : (setBlock w r o').heap[r]? = some o' := by
  have hlt : r < w.heap.size := lt_of_block hr
  show (w.heap.setIfInBounds r o')[r]? = _
  simp [hlt]
end Go.Proofs.Ytflfhigldkdlmaa
